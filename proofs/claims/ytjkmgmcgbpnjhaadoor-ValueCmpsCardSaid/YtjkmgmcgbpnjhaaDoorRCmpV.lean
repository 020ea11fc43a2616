/-
  The contract of the given package gavotteref02's Cmp over this seat's translation. Conditions: those that each theorem states.
-/
import Derived.Test.YtjkmgmcgbpnjhaaDoorOrdV
namespace Go.Proofs.YtjkmgmcgbpnjhaaDoor
open Go.RowKit Go.ChangeShapes Go.WideShapes Go.ChangeAt Go.Deep
attribute [local go_sem ↓] Go.wp_at_zero Go.wp_at_succ

set_option maxHeartbeats 1000000 in
theorem rcmpV_kl (x y : VT) (h : x.k < y.k) (s1 s2 : Value) (w : World) (h1 : VT.In w x s1) (h2 : VT.In w y s2) :
    Calls Tryd.prog 36 #[x.val s1, y.val s2] w fun e w' => e = .returned (.int .i64 (VT.cmpR x y)) ∧ Below w.heap.size w w' := by
  obtain ⟨p1, q1, rfl⟩ := h1.slice
  obtain ⟨p2, q2, rfl⟩ := h2.slice
  clear h1 h2
  have HV := Lib.hid (show VT.cmpR x y = -1 from by unfold VT.cmpR or3; rw [sgnI_lt h]; rfl)
  have z : (x.k != y.k) = true := by simp; omega
  unfold VT.val
  go_enter Tryd.func36, Tryd.ntmps36
  go_wp2
  go_ret
  exact ⟨rint HV.out.symm, bA (bA (Below.refl _ _) _) _⟩

set_option maxHeartbeats 1000000 in
theorem rcmpV_kg (x y : VT) (h : y.k < x.k) (s1 s2 : Value) (w : World) (h1 : VT.In w x s1) (h2 : VT.In w y s2) :
    Calls Tryd.prog 36 #[x.val s1, y.val s2] w fun e w' => e = .returned (.int .i64 (VT.cmpR x y)) ∧ Below w.heap.size w w' := by
  obtain ⟨p1, q1, rfl⟩ := h1.slice
  obtain ⟨p2, q2, rfl⟩ := h2.slice
  clear h1 h2
  have HV := Lib.hid (show VT.cmpR x y = 1 from by unfold VT.cmpR or3; rw [sgnI_gt h]; rfl)
  have z : (x.k != y.k) = true := by simp; omega
  have z2 : ¬ x.k < y.k := by omega
  clear h
  unfold VT.val
  go_enter Tryd.func36, Tryd.ntmps36
  go_wp2
  go_ret
  exact ⟨rint HV.out.symm, bA (bA (Below.refl _ _) _) _⟩

set_option maxHeartbeats 1000000 in
theorem rcmpV_nl (x y : VT) (hk : x.k = y.k) (h : x.n < y.n) (s1 s2 : Value) (w : World) (h1 : VT.In w x s1) (h2 : VT.In w y s2) :
    Calls Tryd.prog 36 #[x.val s1, y.val s2] w fun e w' => e = .returned (.int .i64 (VT.cmpR x y)) ∧ Below w.heap.size w w' := by
  obtain ⟨p1, q1, rfl⟩ := h1.slice
  obtain ⟨p2, q2, rfl⟩ := h2.slice
  clear h1 h2
  have HV := Lib.hid (show VT.cmpR x y = -1 from by unfold VT.cmpR or3; rw [sgnI_eq hk, sgnI_lt h]; rfl)
  have z : (x.k != y.k) = false := by simp [hk]
  clear hk
  unfold VT.val
  go_enter Tryd.func36, Tryd.ntmps36
  go_wp2
  go_ret
  exact ⟨rint HV.out.symm, bA (bA (Below.refl _ _) _) _⟩

set_option maxHeartbeats 1000000 in
theorem rcmpV_ng (x y : VT) (hk : x.k = y.k) (h : y.n < x.n) (s1 s2 : Value) (w : World) (h1 : VT.In w x s1) (h2 : VT.In w y s2) :
    Calls Tryd.prog 36 #[x.val s1, y.val s2] w fun e w' => e = .returned (.int .i64 (VT.cmpR x y)) ∧ Below w.heap.size w w' := by
  obtain ⟨p1, q1, rfl⟩ := h1.slice
  obtain ⟨p2, q2, rfl⟩ := h2.slice
  clear h1 h2
  have HV := Lib.hid (show VT.cmpR x y = 1 from by unfold VT.cmpR or3; rw [sgnI_eq hk, sgnI_gt h]; rfl)
  have z : (x.k != y.k) = false := by simp [hk]
  clear hk
  have z2 : ¬ x.n < y.n := by omega
  unfold VT.val
  go_enter Tryd.func36, Tryd.ntmps36
  go_wp2
  go_ret
  exact ⟨rint HV.out.symm, bA (bA (Below.refl _ _) _) _⟩

set_option maxHeartbeats 1000000 in
theorem rcmpV_sl (x y : VT) (hk : x.k = y.k) (hn : x.n = y.n) (h : strL x.s.toList y.s.toList = -1) (s1 s2 : Value) (w : World) (h1 : VT.In w x s1) (h2 : VT.In w y s2) :
    Calls Tryd.prog 36 #[x.val s1, y.val s2] w fun e w' => e = .returned (.int .i64 (VT.cmpR x y)) ∧ Below w.heap.size w w' := by
  obtain ⟨p1, q1, rfl⟩ := h1.slice
  obtain ⟨p2, q2, rfl⟩ := h2.slice
  clear h1 h2
  have HV := Lib.hid (show VT.cmpR x y = -1 from by unfold VT.cmpR or3; rw [sgnI_eq hk, sgnI_eq hn, h]; rfl)
  have z : (x.k != y.k) = false := by simp [hk]
  clear hk
  have z2 : ¬ x.n < y.n := by omega
  have z3 : ¬ y.n < x.n := by omega
  clear hn
  have z4 : Op.bytesLess x.s.toList y.s.toList = true := by rw [strL_less, h]; rfl
  clear h
  unfold VT.val
  go_enter Tryd.func36, Tryd.ntmps36
  go_wp2
  go_ret
  exact ⟨rint HV.out.symm, bA (bA (Below.refl _ _) _) _⟩

set_option maxHeartbeats 1000000 in
theorem rcmpV_sg (x y : VT) (hk : x.k = y.k) (hn : x.n = y.n) (h : strL x.s.toList y.s.toList = 1) (s1 s2 : Value) (w : World) (h1 : VT.In w x s1) (h2 : VT.In w y s2) :
    Calls Tryd.prog 36 #[x.val s1, y.val s2] w fun e w' => e = .returned (.int .i64 (VT.cmpR x y)) ∧ Below w.heap.size w w' := by
  obtain ⟨p1, q1, rfl⟩ := h1.slice
  obtain ⟨p2, q2, rfl⟩ := h2.slice
  clear h1 h2
  have HV := Lib.hid (show VT.cmpR x y = 1 from by unfold VT.cmpR or3; rw [sgnI_eq hk, sgnI_eq hn, h]; rfl)
  have z : (x.k != y.k) = false := by simp [hk]
  clear hk
  have z2 : ¬ x.n < y.n := by omega
  have z3 : ¬ y.n < x.n := by omega
  clear hn
  have z4 : Op.bytesLess x.s.toList y.s.toList = false := by rw [strL_less, h]; rfl
  have z6 : ¬ x.s.toList = y.s.toList := fun e => by rw [strL_zero.2 e] at h; cases h
  have z5 : (!(x.s.toList == y.s.toList)) = true := by simp [z6]
  clear z6
  clear h
  unfold VT.val
  go_enter Tryd.func36, Tryd.ntmps36
  go_wp2
  go_ret
  exact ⟨rint HV.out.symm, bA (bA (Below.refl _ _) _) _⟩

set_option maxHeartbeats 4000000 in
theorem rcmpV_loop (x y : VT) (hk : x.k = y.k) (hn : x.n = y.n) (hs : x.s.toList = y.s.toList)
    (ih : ∀ i, i < x.len → i < y.len → ∀ (s1 s2 : Value) (w : World), VT.In w (x.kid i) s1 → VT.In w (y.kid i) s2 → Calls Tryd.prog 36 #[(x.kid i).val s1, (y.kid i).val s2] w fun e w' => e = .returned (.int .i64 (VT.cmp (x.kid i) (y.kid i))) ∧ Below w.heap.size w w')
    (s1 s2 : Value) (w : World) (h1 : VT.In w x s1) (h2 : VT.In w y s2) :
    Calls Tryd.prog 36 #[x.val s1, y.val s2] w fun e w' => e = .returned (.int .i64 (VT.cmpL x y)) ∧ Below w.heap.size w w' := by
  obtain ⟨_, _, _, l1, pa, ca, rfl, la, qa, ka⟩ := h1.out
  obtain ⟨_, _, _, l2, pb, cb, rfl, lb, qb, kb⟩ := h2.out
  have HK1 := Lib.hid ka
  have HK2 := Lib.hid kb
  have HI := Lib.hid ih
  have z : (x.k != y.k) = false := by simp [hk]
  clear hk
  have z2 : ¬ x.n < y.n := by omega
  have z3 : ¬ y.n < x.n := by omega
  clear hn
  have z4 : Op.bytesLess y.s.toList y.s.toList = false := by rw [strL_less, strL_zero.2 rfl]; rfl
  clear ka kb ih h1 h2
  unfold VT.val
  have HB := Lib.hid (show Below w.heap.size w ((w.alloc (.cells #[.int .i64 x.k, .int .i64 x.n, .string x.s, .slice pa x.len ca] 35)).alloc (.cells #[.int .i64 y.k, .int .i64 y.n, .string y.s, .slice pb y.len cb] 35)) from bA (bA (Below.refl _ _) _) _)
  have q0 : ((w.alloc (.cells #[.int .i64 x.k, .int .i64 x.n, .string x.s, .slice pa x.len ca] 35)).alloc (.cells #[.int .i64 y.k, .int .i64 y.n, .string y.s, .slice pb y.len cb] 35)).cell? ⟨w.heap.size, 3, none⟩ = some (.slice pa x.len ca) := by go_simp
  have r0 : ((w.alloc (.cells #[.int .i64 x.k, .int .i64 x.n, .string x.s, .slice pa x.len ca] 35)).alloc (.cells #[.int .i64 y.k, .int .i64 y.n, .string y.s, .slice pb y.len cb] 35)).cell? ⟨w.heap.size + 1, 3, none⟩ = some (.slice pb y.len cb) := by go_simp
  go_enter Tryd.func36, Tryd.ntmps36
  go_wp2
  clear hs z4
  generalize ((w.alloc (.cells #[.int .i64 x.k, .int .i64 x.n, .string x.s, .slice pa x.len ca] 35)).alloc (.cells #[.int .i64 y.k, .int .i64 y.n, .string y.s, .slice pb y.len cb] 35)) = w0 at *
  go_loopw [5] (fun vk wr => ∃ k : Nat, vk = .int .i64 k ∧ k ≤ x.len ∧ k ≤ y.len ∧ (∀ i, i < k → VT.cmp (x.kid i) (y.kid i) = 0) ∧ Below w0.heap.size w0 wr) (fun vk _ => x.len + y.len - (intOf vk).toNat)
  case atStart => exact ⟨0, rfl, Nat.zero_le _, Nat.zero_le _, fun i h => by omega, Below.refl _ _⟩
  case round =>
    obtain ⟨k, rfl, hkl, hkl2, hu, hbl⟩ := hrel
    have HU := Lib.hid hu
    clear hu
    by_cases hlt : k < x.len
    · by_cases hk2 : k < y.len
      · obtain ⟨b1, o1, rfl, kk1⟩ := HK1.out (by omega)
        obtain ⟨b2, o2, rfl, kk2⟩ := HK2.out (by omega)
        obtain ⟨sl1, ⟨c0, c1, c2, c3⟩, i1⟩ := kk1 k hlt
        obtain ⟨sl2, ⟨d0, d1, d2, d3⟩, i2⟩ := kk2 k hk2
        obtain ⟨p1, q1, rfl⟩ := i1.slice
        obtain ⟨p2, q2, rfl⟩ := i2.slice
        have HN1 := Lib.hid i1
        have HN2 := Lib.hid i2
        have hc := HI.out k hlt hk2
        generalize hcv : VT.cmp (x.kid k) (y.kid k) = c at hc
        have HC := Lib.hid hc
        have HCV := Lib.hid hcv
        have WB2 := bT HB.out hbl
        clear hc hcv kk1 kk2 i1 i2
        replace c0 := kc WB2 c0
        replace c1 := kc WB2 c1
        replace c2 := kc WB2 c2
        replace c3 := kc WB2 c3
        replace d0 := kc WB2 d0
        replace d1 := kc WB2 d1
        replace d2 := kc WB2 d2
        replace d3 := kc WB2 d3
        replace q0 := kc hbl q0
        replace r0 := kc hbl r0
        go_wp2_with fail
        go_region_held3 (fun w' => w'.cell? ⟨w.heap.size, 3, none⟩ = some (.slice (some ⟨b1, o1, none⟩) x.len ca) ∧ w'.cell? ⟨w.heap.size + 1, 3, none⟩ = some (.slice (some ⟨b2, o2, none⟩) y.len cb) ∧ w'.cell? ⟨b1, o1 + k * 4, none⟩ = some (.int .i64 (x.kid k).k) ∧ w'.cell? ⟨b1, o1 + k * 4 + 1, none⟩ = some (.int .i64 (x.kid k).n) ∧ w'.cell? ⟨b1, o1 + k * 4 + 2, none⟩ = some (.string (x.kid k).s) ∧ w'.cell? ⟨b1, o1 + k * 4 + 3, none⟩ = some (.slice p1 (x.kid k).len q1) ∧ w'.cell? ⟨b2, o2 + k * 4, none⟩ = some (.int .i64 (y.kid k).k) ∧ w'.cell? ⟨b2, o2 + k * 4 + 1, none⟩ = some (.int .i64 (y.kid k).n) ∧ w'.cell? ⟨b2, o2 + k * 4 + 2, none⟩ = some (.string (y.kid k).s) ∧ w'.cell? ⟨b2, o2 + k * 4 + 3, none⟩ = some (.slice p2 (y.kid k).len q2) ∧ Below w0.heap.size w0 w')
          (first | exact ⟨q0, r0, c0, c1, c2, c3, d0, d1, d2, d3, Below.drew hbl⟩ | (go_split_ands; exact ⟨kc hb (by assumption), kc hb (by assumption), kc hb (by assumption), kc hb (by assumption), kc hb (by assumption), kc hb (by assumption), kc hb (by assumption), kc hb (by assumption), kc hb (by assumption), kc hb (by assumption), bT (by assumption) hb⟩) | go_keep)
          (first | (go_at_call 36; refine (HC.out _ _ _ (inK (by repeat (first | with_reducible assumption | with_reducible exact Below.refl _ _ | with_reducible refine bN ?_ _ | with_reducible refine Below.drew ?_ | with_reducible refine bA ?_ _ | with_reducible refine bT ?_ (by assumption))) HN1.out) (inK (by repeat (first | with_reducible assumption | with_reducible exact Below.refl _ _ | with_reducible refine bN ?_ _ | with_reducible refine Below.drew ?_ | with_reducible refine bA ?_ _ | with_reducible refine bT ?_ (by assumption))) HN2.out)).mono ?_; rintro e w3 ⟨rfl, hb⟩))
        all_goals go_split_ands
        all_goals
          have WB : Below w0.heap.size w0 w3 := by assumption
          clear q0 r0 c0 c1 c2 c3 d0 d1 d2 d3 hb
          by_cases hz0 : c = 0
          · subst hz0
            go_wp2
            go_roundw
            case rel =>
              refine ⟨k + 1, by go_num, by omega, by omega, fun i hi => ?_, WB⟩
              by_cases e : i = k
              · rw [e]; exact HCV.out
              · exact HU.out i (by omega)
            case measure => simp [intOf]; omega
          · have hv : VT.cmpL x y = c := by rw [← HCV.out]; exact VT.cmpL_at (k := k) HU.out (by omega) (by omega) (by rw [HCV.out]; exact hz0)
            have HV := Lib.hid hv
            have hz1 : (c != 0) = true := by simpa using hz0
            clear hv hz0
            go_wp2
            go_ret
            exact ⟨rint HV.out.symm, bT HB.out WB⟩
      · have hv : VT.cmpL x y = 1 := by rw [VT.cmpL_zero HU.out (by omega), sgnI_gt (by omega)]
        have HV := Lib.hid hv
        clear hv
        replace q0 := kc hbl q0
        replace r0 := kc hbl r0
        go_wp2
        go_ret
        exact ⟨rint HV.out.symm, bT HB.out hbl⟩
    · by_cases hk2 : k < y.len
      · have hv : VT.cmpL x y = -1 := by rw [VT.cmpL_zero HU.out (by omega), sgnI_lt (by omega)]
        have HV := Lib.hid hv
        clear hv
        replace q0 := kc hbl q0
        replace r0 := kc hbl r0
        go_wp2
        go_ret
        exact ⟨rint HV.out.symm, bT HB.out hbl⟩
      · have hv : VT.cmpL x y = 0 := by rw [VT.cmpL_zero HU.out (by omega), sgnI_eq (by omega)]
        have HV := Lib.hid hv
        clear hv
        replace q0 := kc hbl q0
        replace r0 := kc hbl r0
        go_wp2
        go_ret
        exact ⟨rint HV.out.symm, bT HB.out hbl⟩

theorem rcmpV_c : ∀ (x y : VT) (s1 s2 : Value) (w : World), VT.In w x s1 → VT.In w y s2 →
    Calls Tryd.prog 36 #[x.val s1, y.val s2] w fun e w' => e = .returned (.int .i64 (VT.cmp x y)) ∧ Below w.heap.size w w' := by
  intro x
  induction x using VT.ind with
  | h x ih =>
    intro y s1 s2 w h1 h2
    rw [VT.cmp_eq]
    have hr := VT.cmpR_zero x y
    by_cases hk : x.k = y.k
    · by_cases hn : x.n = y.n
      · rcases strL_three x.s.toList y.s.toList with hs | hs | hs
        · rw [if_pos fun e => by rw [strL_zero.2 (hr.1 e).2.2] at hs; cases hs]
          exact rcmpV_sl x y hk hn hs s1 s2 w h1 h2
        · have e := strL_zero.1 hs
          rw [if_neg (by simp [hr.2 ⟨hk, hn, e⟩])]
          exact rcmpV_loop x y hk hn e (fun i hi _ s1 s2 w h1 h2 => ih i hi (y.kid i) s1 s2 w h1 h2) s1 s2 w h1 h2
        · rw [if_pos fun e => by rw [strL_zero.2 (hr.1 e).2.2] at hs; cases hs]
          exact rcmpV_sg x y hk hn hs s1 s2 w h1 h2
      · rw [if_pos fun e => hn (hr.1 e).2.1]
        by_cases h : x.n < y.n
        · exact rcmpV_nl x y hk h s1 s2 w h1 h2
        · exact rcmpV_ng x y hk (by omega) s1 s2 w h1 h2
    · rw [if_pos fun e => hk (hr.1 e).1]
      by_cases h : x.k < y.k
      · exact rcmpV_kl x y h s1 s2 w h1 h2
      · exact rcmpV_kg x y (by omega) s1 s2 w h1 h2
end Go.Proofs.YtjkmgmcgbpnjhaaDoor
