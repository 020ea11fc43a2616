/-
  The contract of the law ValueRights over this seat's translation: whatever value it is handed, it answers true. Conditions: those that each theorem states.
-/
import Derived.Test.YtjkmgmcgbpnjhaaDoorAwake
import Derived.Test.YtjkmgmcgbpnjhaaDoorFew
import Derived.Test.YtjkmgmcgbpnjhaaDoorRSameV
import Derived.Test.YtjkmgmcgbpnjhaaDoorRightC
import Derived.Test.YtjkmgmcgbpnjhaaDoorCopy
import Derived.Test.YtjkmgmcgbpnjhaaDoorRTypeOf
import Derived.Test.YtjkmgmcgbpnjhaaDoorRTextV
import Derived.Test.YtjkmgmcgbpnjhaaDoorRSameT
namespace Go.Proofs.YtjkmgmcgbpnjhaaDoor
open Go.RowKit Go.ChangeShapes Go.WideShapes Go.ChangeAt Go.Deep
attribute [local go_sem ↓] Go.wp_at_zero Go.wp_at_succ


theorem VT.typeM_right : ∀ (m : Nat) (t : VT), VT.rightB m t = true → TT.rightB m (VT.typeM m t) = true := by
  have leaf : ∀ (m : Nat) (t : VT) (T : TT), VT.rightB m t = true → t.k ≠ 3 → T.k = t.k → T.len = t.len → TT.rightB m T = true := fun m t T h h3 hk hl => by
    rw [TT.rightB_leaf (by rw [hk]; exact h3)]
    rw [VT.rightB_leaf h3] at h
    have h0 := VT.leafB_len h
    have hkk : 0 ≤ t.k ∧ t.k ≤ 2 := by rcases VT.leafB_k h with h | h | ⟨h, _⟩ <;> omega
    rw [TT.leaf_in (by rw [hk]; exact hkk.1) (by rw [hk]; exact hkk.2), hl, h0]
    rfl
  intro m
  induction m with
  | zero => exact fun t h => leaf 0 t _ h (VT.rightB_zero h) rfl rfl
  | succ m ih =>
    intro t h
    by_cases h3 : t.k = 3
    · have hT : (VT.typeM (m + 1) t).k = 3 := h3
      obtain ⟨h1, h4, hk⟩ := VT.rightB_kids h h3
      rw [TT.rightB_tup hT, TT.itemsB_succ]
      have e1 : (VT.typeM (m + 1) t).len = t.len := rfl
      rw [e1, decide_eq_true ⟨h1, h4⟩]
      refine allTo_true.2 fun i hi => ?_
      rw [show (VT.typeM (m + 1) t).kid i = VT.typeM m (t.kid i) from TT.kid_mk hi]
      exact ih _ (hk i hi)
    · exact leaf (m + 1) t _ h h3 rfl rfl

set_option maxHeartbeats 8000000 in
set_option maxRecDepth 100000 in
theorem rights_c (x : VT) (s1 : Value) (w : World) (he : Tab w) (h1 : VT.In w x s1) :
    Calls Tryd.prog 6 #[x.val s1] w fun e w' => e = .returned (.bool true) ∧ Below w.heap.size w w' := by
  have HE := Lib.hid he
  have HN1 := Lib.hid h1
  obtain ⟨pa, ca, rfl⟩ := h1.slice
  clear h1 he
  have k1 := fun w h => rright_v 3 (by omega) x (.slice pa x.len ca) w h
  rw [show VT.rightB 3 x = x.okB from rfl] at k1
  have K1 := Lib.hid k1
  have K2 := Lib.hid fun w h => right_cv x (.slice pa x.len ca) w h
  have KCP := Lib.hid fun (hs : x.Sm) w h => copy_c x hs (.slice pa x.len ca) w h
  have ks := fun s w h h' => rsameV_c x x s (.slice pa x.len ca) w h h'
  rw [VT.sameB_refl] at ks
  have KSM := Lib.hid ks
  have KTO := Lib.hid fun w h => typeOf_cv x (.slice pa x.len ca) w h
  have KTX := Lib.hid fun w h h' => text_cv x (.slice pa x.len ca) w h h'
  have KRT := Lib.hid fun (h : x.okB = true) w h' => rtypeOf_v 3 x h (.slice pa x.len ca) w h'
  have KRX := Lib.hid fun (h : x.okB = true) w h' => rtext_v 3 (by omega) x h (.slice pa x.len ca) w h'
  have kst := fun s s' w h h' => rsameT_c x.typeB x.typeB s s' w h h'
  rw [TT.sameB_refl] at kst
  have KST := Lib.hid kst
  have KTR := Lib.hid fun s w h => tright_cv x.typeB s w h
  clear k1 ks kst
  unfold VT.val at *
  have WB : Below w.heap.size w (w.alloc (.cells #[.int .i64 x.k, .int .i64 x.n, .string x.s, .slice pa x.len ca] 35)) := bA (Below.refl _ _) _
  have q0 : (w.alloc (.cells #[.int .i64 x.k, .int .i64 x.n, .string x.s, .slice pa x.len ca] 35)).cell? ⟨w.heap.size, 0, none⟩ = some (.int .i64 x.k) := by go_simp
  have q1 : (w.alloc (.cells #[.int .i64 x.k, .int .i64 x.n, .string x.s, .slice pa x.len ca] 35)).cell? ⟨w.heap.size, 1, none⟩ = some (.int .i64 x.n) := by go_simp
  have q2 : (w.alloc (.cells #[.int .i64 x.k, .int .i64 x.n, .string x.s, .slice pa x.len ca] 35)).cell? ⟨w.heap.size, 2, none⟩ = some (.string x.s) := by go_simp
  have q3 : (w.alloc (.cells #[.int .i64 x.k, .int .i64 x.n, .string x.s, .slice pa x.len ca] 35)).cell? ⟨w.heap.size, 3, none⟩ = some (.slice pa x.len ca) := by go_simp
  go_enter Tryd.func6, Tryd.ntmps6
  go_wp2_with fail
  generalize (w.alloc (.cells #[.int .i64 x.k, .int .i64 x.n, .string x.s, .slice pa x.len ca] 35)) = w0 at *
  refine (awake_c _ (tab_stays _ _ WB HE.out)).mono ?_
  rintro e w1 ⟨rfl, hb⟩
  replace WB := bT WB hb
  replace q0 := kc hb q0
  replace q1 := kc hb q1
  replace q2 := kc hb q2
  replace q3 := kc hb q3
  clear hb
  have HF := Lib.hid (VT.lst_in (w := w1.alloc (.cells #[.int .i64 x.k, .int .i64 x.n, .string x.s, .slice pa x.len ca] 35)) (f := fun _ => x) (n := 1) (b := w1.heap.size) (by omega) (fun i hi => by
    obtain rfl : i = 0 := by omega
    exact ⟨.slice pa x.len ca, ⟨by go_simp, by go_simp, by go_simp, by go_simp⟩, inK (bA WB _) HN1.out⟩))
  go_wp2_with fail
  refine (few_c _ _ _ HF.out).mono ?_
  rintro e w2 hret
  obtain ⟨r, rfl, hfew, hb0⟩ := hret
  have hb := bT (bA (Below.refl _ w1) _) hb0
  have HFW := Lib.hid hfew
  clear hb0 HF hfew
  replace WB := bT WB hb
  replace q0 := kc hb q0
  replace q1 := kc hb q1
  replace q2 := kc hb q2
  replace q3 := kc hb q3
  clear hb
  cases r with
  | false =>
    go_wp2_with fail
    refine (awake_c _ (tab_stays _ _ WB HE.out)).mono ?_
    rintro e w9 ⟨rfl, hb⟩
    go_wp2
    go_ret
    exact ⟨rfl, bT WB hb⟩
  | true =>
  have hsm : x.Sm := by have := HFW.out rfl 0 (by show 0 < 1; omega); rwa [VT.lst_kid (by omega)] at this
  have KC2 := Lib.hid (KCP.out hsm)
  clear hsm HFW KCP
  go_wp2_with fail
  refine (K1.out _ (inK WB HN1.out)).mono ?_
  rintro e w3 ⟨rfl, hb⟩
  replace WB := bT WB hb
  replace q0 := kc hb q0
  replace q1 := kc hb q1
  replace q2 := kc hb q2
  replace q3 := kc hb q3
  clear hb
  go_wp2_with fail
  go_region_held3 (fun w' => w'.cell? ⟨w.heap.size, 0, none⟩ = some (.int .i64 x.k) ∧ w'.cell? ⟨w.heap.size, 1, none⟩ = some (.int .i64 x.n) ∧ w'.cell? ⟨w.heap.size, 2, none⟩ = some (.string x.s) ∧ w'.cell? ⟨w.heap.size, 3, none⟩ = some (.slice pa x.len ca) ∧ Below w.heap.size w w')
    (first | exact ⟨q0, q1, q2, q3, Below.drew WB⟩ | (go_split_ands; exact ⟨kc hb (by assumption), kc hb (by assumption), kc hb (by assumption), kc hb (by assumption), bT (by assumption) hb⟩) | go_keep)
    (first
      | (go_at_call 20; refine (K2.out _ (inK (by repeat (first | with_reducible assumption | with_reducible exact Below.refl _ _ | with_reducible refine bN ?_ _ | with_reducible refine Below.drew ?_ | with_reducible refine bA ?_ _ | with_reducible refine bT ?_ (by assumption))) HN1.out)).mono ?_; rintro e w8 ⟨rfl, hb⟩)
      | (go_at_call 25; refine (KC2.out _ (inK (by repeat (first | with_reducible assumption | with_reducible exact Below.refl _ _ | with_reducible refine bN ?_ _ | with_reducible refine Below.drew ?_ | with_reducible refine bA ?_ _ | with_reducible refine bT ?_ (by assumption))) HN1.out)).mono ?_; rintro e w8 hret; obtain ⟨p8, cap8, rfl, hfr8, hb⟩ := hret; have HFR := Lib.hid hfr8.into; clear hfr8)
      | (go_at_call 24; refine (KSM.out _ _ (inK (by repeat (first | with_reducible assumption | with_reducible exact Below.refl _ _ | with_reducible refine bN ?_ _ | with_reducible refine Below.drew ?_ | with_reducible refine bA ?_ _ | with_reducible refine bT ?_ (by assumption))) HFR.out) (inK (by repeat (first | with_reducible assumption | with_reducible exact Below.refl _ _ | with_reducible refine bN ?_ _ | with_reducible refine Below.drew ?_ | with_reducible refine bA ?_ _ | with_reducible refine bT ?_ (by assumption))) HN1.out)).mono ?_; rintro e w8 ⟨rfl, hb⟩))
  all_goals go_split_ands
  all_goals clear WB q0 q1 q2 q3
  all_goals have WB : Below w.heap.size w w8 := by assumption
  all_goals have q0 := kc (Below.refl w8.heap.size w8) (p := ⟨w.heap.size, 0, none⟩) (v := .int .i64 x.k) (by assumption)
  all_goals have q1 := kc (Below.refl w8.heap.size w8) (p := ⟨w.heap.size, 1, none⟩) (v := .int .i64 x.n) (by assumption)
  all_goals have q2 := kc (Below.refl w8.heap.size w8) (p := ⟨w.heap.size, 2, none⟩) (v := .string x.s) (by assumption)
  all_goals have q3 := kc (Below.refl w8.heap.size w8) (p := ⟨w.heap.size, 3, none⟩) (v := .slice pa x.len ca) (by assumption)
  all_goals clear hb KC2 KSM K1 K2
  all_goals
    cases hok : x.okB with
    | false =>
      have hty : x.typeB = .mk 0 0 nofun := by unfold VT.typeB; rw [hok]; simp; funext a; exact a.elim0
      have htx : x.textB = [] := by unfold VT.textB; rw [hok]; simp
      rw [hty] at KTO
      rw [htx] at KTX
      have ksz := fun s w h => sameT_cv (.mk 0 0 nofun) (.mk 0 0 nofun) s (.slice none 0 0) w h ⟨by omega, by omega, none, 0, rfl, by omega, by omega, by omega⟩
      rw [TT.sameB_refl] at ksz
      have KSZ := Lib.hid ksz
      have hnil : (bs []).toList = [] := by kernel_rfl
      clear ksz hty htx KRT KRX KST KTR
      generalize bs [] = S0 at *
      go_wp2_with fail
      refine (KTO.out _ (inK WB HN1.out)).mono ?_
      rintro e w4 hret
      obtain ⟨p4, cap4, rfl, hfr4, hb⟩ := hret
      have HF4 := Lib.hid hfr4.into
      clear hfr4
      replace WB := bT WB hb
      replace q0 := kc hb q0
      replace q1 := kc hb q1
      replace q2 := kc hb q2
      replace q3 := kc hb q3
      clear hb
      go_wp2_with fail
      refine (KSZ.out _ _ HF4.out).mono ?_
      rintro e w5 ⟨rfl, hb⟩
      replace WB := bT WB hb
      replace q0 := kc hb q0
      replace q1 := kc hb q1
      replace q2 := kc hb q2
      replace q3 := kc hb q3
      clear hb
      go_wp2_with fail
      refine (KTX.out _ (tab_stays _ _ WB HE.out) (inK WB HN1.out)).mono ?_
      rintro e w6 ⟨rfl, hb⟩
      go_wp2
      go_ret
      exact ⟨rbool (by simp), bT WB hb⟩
    | true =>
      have hty : VT.typeM 3 x = x.typeB := by unfold VT.typeB; rw [if_pos hok]
      have htx : VT.textM 3 x = x.textB := by unfold VT.textB; rw [if_pos hok]
      have kr := KRT.out hok
      have kx := KRX.out hok
      rw [hty] at kr
      rw [htx] at kx
      have KR2 := Lib.hid kr
      have KX2 := Lib.hid kx
      have htr : x.typeB.okB = true := by rw [← hty]; exact VT.typeM_right 3 x hok
      rw [htr] at KTR
      clear kr kx hty htx htr KRT KRX hok
      generalize x.typeB = T at *
      generalize x.textB = L at *
      go_wp2_with fail
      go_region_held3 (fun w' => w'.cell? ⟨w.heap.size, 0, none⟩ = some (.int .i64 x.k) ∧ w'.cell? ⟨w.heap.size, 1, none⟩ = some (.int .i64 x.n) ∧ w'.cell? ⟨w.heap.size, 2, none⟩ = some (.string x.s) ∧ w'.cell? ⟨w.heap.size, 3, none⟩ = some (.slice pa x.len ca) ∧ Below w.heap.size w w')
        (first | exact ⟨q0, q1, q2, q3, Below.drew WB⟩ | (go_split_ands; exact ⟨kc hb (by assumption), kc hb (by assumption), kc hb (by assumption), kc hb (by assumption), bT (by assumption) hb⟩) | go_keep)
        (first
          | (go_at_call 27; refine (KTO.out _ (inK (by repeat (first | with_reducible assumption | with_reducible exact Below.refl _ _ | with_reducible refine bN ?_ _ | with_reducible refine Below.drew ?_ | with_reducible refine bA ?_ _ | with_reducible refine bT ?_ (by assumption))) HN1.out)).mono ?_; rintro e w8 hret; obtain ⟨p8, cap8, rfl, hfr8, hb⟩ := hret; have HFA := Lib.hid hfr8.into; clear hfr8)
          | (go_at_call 29; refine (KR2.out _ (inK (by repeat (first | with_reducible assumption | with_reducible exact Below.refl _ _ | with_reducible refine bN ?_ _ | with_reducible refine Below.drew ?_ | with_reducible refine bA ?_ _ | with_reducible refine bT ?_ (by assumption))) HN1.out)).mono ?_; rintro e w8 hret; obtain ⟨p9, cap9, rfl, hfr8, hb⟩ := hret; have HFB := Lib.hid hfr8.into; clear hfr8)
          | (go_at_call 28; refine (KST.out _ _ _ (inT (by repeat (first | with_reducible assumption | with_reducible exact Below.refl _ _ | with_reducible refine bN ?_ _ | with_reducible refine Below.drew ?_ | with_reducible refine bA ?_ _ | with_reducible refine bT ?_ (by assumption))) HFA.out) (inT (by repeat (first | with_reducible assumption | with_reducible exact Below.refl _ _ | with_reducible refine bN ?_ _ | with_reducible refine Below.drew ?_ | with_reducible refine bA ?_ _ | with_reducible refine bT ?_ (by assumption))) HFB.out)).mono ?_; rintro e w8 ⟨rfl, hb⟩)
          | (go_at_call 22; refine (KTX.out _ (tab_stays _ _ (by repeat (first | with_reducible assumption | with_reducible exact Below.refl _ _ | with_reducible refine bN ?_ _ | with_reducible refine Below.drew ?_ | with_reducible refine bA ?_ _ | with_reducible refine bT ?_ (by assumption))) HE.out) (inK (by repeat (first | with_reducible assumption | with_reducible exact Below.refl _ _ | with_reducible refine bN ?_ _ | with_reducible refine Below.drew ?_ | with_reducible refine bA ?_ _ | with_reducible refine bT ?_ (by assumption))) HN1.out)).mono ?_; rintro e w8 ⟨rfl, hb⟩)
          | (go_at_call 30; refine (KX2.out _ (inK (by repeat (first | with_reducible assumption | with_reducible exact Below.refl _ _ | with_reducible refine bN ?_ _ | with_reducible refine Below.drew ?_ | with_reducible refine bA ?_ _ | with_reducible refine bT ?_ (by assumption))) HN1.out)).mono ?_; rintro e w8 ⟨rfl, hb⟩)
          | (go_at_call 31; refine (KTR.out _ _ (inT (by repeat (first | with_reducible assumption | with_reducible exact Below.refl _ _ | with_reducible refine bN ?_ _ | with_reducible refine Below.drew ?_ | with_reducible refine bA ?_ _ | with_reducible refine bT ?_ (by assumption))) HFA.out)).mono ?_; rintro e w8 ⟨rfl, hb⟩))
      all_goals go_split_ands
      all_goals clear WB q0 q1 q2 q3
      all_goals have WB : Below w.heap.size w w8 := by assumption
      all_goals go_wp2
      all_goals go_ret
      all_goals exact ⟨rbool (by simp), WB⟩
end Go.Proofs.YtjkmgmcgbpnjhaaDoor
