/-
  The contract of the given package gavotteref02's Same over this seat's translation. Conditions: those that each theorem states.
-/
import Derived.Test.YtbgpipdbnjoeeaaDoorOrdV
namespace Go.Proofs.YtbgpipdbnjoeeaaDoor
open Go.RowKit Go.ChangeShapes Go.WideShapes Go.ChangeAt Go.Deep
attribute [local go_sem ↓] Go.wp_at_zero Go.wp_at_succ

set_option maxHeartbeats 2000000 in
theorem rsameV_loop (x y : VT) (hpre : x.k = y.k ∧ x.n = y.n ∧ x.s.toList = y.s.toList) (hlen : x.len = y.len)
    (ih : ∀ i, i < x.len → ∀ (s1 s2 : Value) (w : World), VT.In w (x.kid i) s1 → VT.In w (y.kid i) s2 → Calls Tryd.prog 10 #[(x.kid i).val s1, (y.kid i).val s2] w fun e w' => e = .returned (.bool (VT.sameB (x.kid i) (y.kid i))) ∧ Below w.heap.size w w')
    (s1 s2 : Value) (w : World) (h1 : VT.In w x s1) (h2 : VT.In w y s2) :
    Calls Tryd.prog 10 #[x.val s1, y.val s2] w fun e w' => e = .returned (.bool (allTo (fun i => VT.sameB (x.kid i) (y.kid i)) x.len)) ∧ Below w.heap.size w w' := by
  obtain ⟨_, _, _, l1, pa, ca, rfl, la, qa, ka⟩ := h1.out
  obtain ⟨_, _, _, l2, pb, cb, rfl, lb, qb, kb⟩ := h2.out
  have HK1 := Lib.hid ka
  have HK2 := Lib.hid kb
  have HI := Lib.hid ih
  have hz : ((x.len : Int) != (y.len : Int)) = false := by simp [hlen]
  have HL := Lib.hid hlen
  have z0 : (x.k != y.k) = false := by simp [hpre.1]
  have z1 : (x.n != y.n) = false := by simp [hpre.2.1]
  have hs2 := hpre.2.2
  clear hpre
  clear ka kb ih h1 h2 hlen
  unfold VT.val
  have HB := Lib.hid (show Below w.heap.size w ((w.alloc (.cells #[.int .i64 x.k, .int .i64 x.n, .string x.s, .slice pa x.len ca] 24)).alloc (.cells #[.int .i64 y.k, .int .i64 y.n, .string y.s, .slice pb y.len cb] 24)) from bA (bA (Below.refl _ _) _) _)
  have q0 : ((w.alloc (.cells #[.int .i64 x.k, .int .i64 x.n, .string x.s, .slice pa x.len ca] 24)).alloc (.cells #[.int .i64 y.k, .int .i64 y.n, .string y.s, .slice pb y.len cb] 24)).cell? ⟨w.heap.size, 3, none⟩ = some (.slice pa x.len ca) := by go_simp
  have r0 : ((w.alloc (.cells #[.int .i64 x.k, .int .i64 x.n, .string x.s, .slice pa x.len ca] 24)).alloc (.cells #[.int .i64 y.k, .int .i64 y.n, .string y.s, .slice pb y.len cb] 24)).cell? ⟨w.heap.size + 1, 3, none⟩ = some (.slice pb y.len cb) := by go_simp
  go_enter Tryd.func10, Tryd.ntmps10
  go_wp2
  generalize ((w.alloc (.cells #[.int .i64 x.k, .int .i64 x.n, .string x.s, .slice pa x.len ca] 24)).alloc (.cells #[.int .i64 y.k, .int .i64 y.n, .string y.s, .slice pb y.len cb] 24)) = w0 at *
  go_loopw [5] (fun vk wr => ∃ k : Nat, vk = .int .i64 k ∧ k ≤ x.len ∧ (∀ i, i < k → VT.sameB (x.kid i) (y.kid i) = true) ∧ Below w0.heap.size w0 wr) (fun vk _ => x.len - (intOf vk).toNat)
  case atStart => exact ⟨0, rfl, Nat.zero_le _, fun i h => by omega, Below.refl _ _⟩
  case round =>
    obtain ⟨k, rfl, hkl, hu, hbl⟩ := hrel
    have HU := Lib.hid hu
    clear hu
    by_cases hlt : k < x.len
    · have hk2 : k < y.len := by rw [← HL.out]; exact hlt
      obtain ⟨b1, o1, rfl, kk1⟩ := HK1.out (by omega)
      obtain ⟨b2, o2, rfl, kk2⟩ := HK2.out (by omega)
      obtain ⟨sl1, ⟨c0, c1, c2, c3⟩, i1⟩ := kk1 k hlt
      obtain ⟨sl2, ⟨d0, d1, d2, d3⟩, i2⟩ := kk2 k hk2
      obtain ⟨p1, q1, rfl⟩ := i1.slice
      obtain ⟨p2, q2, rfl⟩ := i2.slice
      have HN1 := Lib.hid i1
      have HN2 := Lib.hid i2
      have hc := HI.out k hlt
      generalize hcv : VT.sameB (x.kid k) (y.kid k) = c at hc
      have HC := Lib.hid hc
      have HCV := Lib.hid hcv
      have WB2 := bT HB.out hbl
      clear hc hcv kk1 kk2 i1 i2
      replace c0 := kc WB2 c0
      replace c1 := kc WB2 c1
      replace c2 := kc WB2 c2
      replace c3 := kc WB2 c3
      replace d0 := kc WB2 d0
      replace d1 := kc WB2 d1
      replace d2 := kc WB2 d2
      replace d3 := kc WB2 d3
      replace q0 := kc hbl q0
      replace r0 := kc hbl r0
      go_wp2_with fail
      go_region_held3 (fun w' => w'.cell? ⟨w.heap.size, 3, none⟩ = some (.slice (some ⟨b1, o1, none⟩) x.len ca) ∧ w'.cell? ⟨w.heap.size + 1, 3, none⟩ = some (.slice (some ⟨b2, o2, none⟩) y.len cb) ∧ w'.cell? ⟨b1, o1 + k * 4, none⟩ = some (.int .i64 (x.kid k).k) ∧ w'.cell? ⟨b1, o1 + k * 4 + 1, none⟩ = some (.int .i64 (x.kid k).n) ∧ w'.cell? ⟨b1, o1 + k * 4 + 2, none⟩ = some (.string (x.kid k).s) ∧ w'.cell? ⟨b1, o1 + k * 4 + 3, none⟩ = some (.slice p1 (x.kid k).len q1) ∧ w'.cell? ⟨b2, o2 + k * 4, none⟩ = some (.int .i64 (y.kid k).k) ∧ w'.cell? ⟨b2, o2 + k * 4 + 1, none⟩ = some (.int .i64 (y.kid k).n) ∧ w'.cell? ⟨b2, o2 + k * 4 + 2, none⟩ = some (.string (y.kid k).s) ∧ w'.cell? ⟨b2, o2 + k * 4 + 3, none⟩ = some (.slice p2 (y.kid k).len q2) ∧ Below w0.heap.size w0 w')
        (first | exact ⟨q0, r0, c0, c1, c2, c3, d0, d1, d2, d3, Below.drew hbl⟩ | (go_split_ands; exact ⟨kc hb (by assumption), kc hb (by assumption), kc hb (by assumption), kc hb (by assumption), kc hb (by assumption), kc hb (by assumption), kc hb (by assumption), kc hb (by assumption), kc hb (by assumption), kc hb (by assumption), bT (by assumption) hb⟩) | go_keep)
        (first | (go_at_call 10; refine (HC.out _ _ _ (inK (by repeat (first | with_reducible assumption | with_reducible exact Below.refl _ _ | with_reducible refine bN ?_ _ | with_reducible refine Below.drew ?_ | with_reducible refine bA ?_ _ | with_reducible refine bT ?_ (by assumption))) HN1.out) (inK (by repeat (first | with_reducible assumption | with_reducible exact Below.refl _ _ | with_reducible refine bN ?_ _ | with_reducible refine Below.drew ?_ | with_reducible refine bA ?_ _ | with_reducible refine bT ?_ (by assumption))) HN2.out)).mono ?_; rintro e w3 ⟨rfl, hb⟩))
      all_goals go_split_ands
      all_goals
        have WB : Below w0.heap.size w0 w3 := by assumption
        clear q0 r0 c0 c1 c2 c3 d0 d1 d2 d3 hb
        cases c with
        | true =>
          go_wp2
          go_roundw
          case rel =>
            refine ⟨k + 1, by go_num, by omega, fun i hi => ?_, WB⟩
            by_cases e : i = k
            · rw [e]; exact HCV.out
            · exact HU.out i (by omega)
          case measure => simp [intOf]; omega
        | false =>
          have hv := allTo_false (f := fun i => VT.sameB (x.kid i) (y.kid i)) hlt HCV.out
          have HV := Lib.hid hv
          clear hv
          go_wp2
          go_ret
          exact ⟨rbool HV.out.symm, bT HB.out WB⟩
    · have hv : allTo (fun i => VT.sameB (x.kid i) (y.kid i)) x.len = true := allTo_true.2 fun i hi => HU.out i (by omega)
      have HV := Lib.hid hv
      clear hv
      replace q0 := kc hbl q0
      replace r0 := kc hbl r0
      go_wp2
      go_ret
      exact ⟨rbool HV.out.symm, bT HB.out hbl⟩

set_option maxHeartbeats 2000000 in
theorem rsameV_no (x y : VT) (h : ¬ (x.k = y.k ∧ x.n = y.n ∧ x.s.toList = y.s.toList ∧ x.len = y.len)) (s1 s2 : Value) (w : World) (h1 : VT.In w x s1) (h2 : VT.In w y s2) :
    Calls Tryd.prog 10 #[x.val s1, y.val s2] w fun e w' => e = .returned (.bool false) ∧ Below w.heap.size w w' := by
  obtain ⟨p1, q1, rfl⟩ := h1.slice
  obtain ⟨p2, q2, rfl⟩ := h2.slice
  clear h1 h2
  unfold VT.val
  by_cases hk : x.k = y.k
  · have z0 : (x.k != y.k) = false := by simp [hk]
    by_cases hn : x.n = y.n
    · have z1 : (x.n != y.n) = false := by simp [hn]
      by_cases hs : x.s.toList = y.s.toList
      · have hl : ¬ x.len = y.len := fun e => h ⟨hk, hn, hs, e⟩
        have hz : ((x.len : Int) != (y.len : Int)) = true := by simp; omega
        clear h hl hk hn
        go_enter Tryd.func10, Tryd.ntmps10
        go_wp2
        go_ret
        exact ⟨rfl, bA (bA (Below.refl _ _) _) _⟩
      · clear h hk hn
        go_enter Tryd.func10, Tryd.ntmps10
        go_wp2
        go_ret
        exact ⟨rfl, bA (bA (Below.refl _ _) _) _⟩
    · have z1 : (x.n != y.n) = true := by simp [hn]
      clear h hk hn
      go_enter Tryd.func10, Tryd.ntmps10
      go_wp2
      go_ret
      exact ⟨rfl, bA (bA (Below.refl _ _) _) _⟩
  · have z0 : (x.k != y.k) = true := by simp [hk]
    clear h hk
    go_enter Tryd.func10, Tryd.ntmps10
    go_wp2
    go_ret
    exact ⟨rfl, bA (bA (Below.refl _ _) _) _⟩

theorem rsameV_c : ∀ (x y : VT) (s1 s2 : Value) (w : World), VT.In w x s1 → VT.In w y s2 →
    Calls Tryd.prog 10 #[x.val s1, y.val s2] w fun e w' => e = .returned (.bool (VT.sameB x y)) ∧ Below w.heap.size w w' := by
  intro x
  induction x using VT.ind with
  | h x ih =>
    intro y s1 s2 w h1 h2
    rw [VT.sameB_eq]
    by_cases h : x.k = y.k ∧ x.n = y.n ∧ x.s.toList = y.s.toList ∧ x.len = y.len
    · rw [decide_eq_true h.1, decide_eq_true h.2.1, decide_eq_true h.2.2.1, decide_eq_true h.2.2.2]
      exact rsameV_loop x y ⟨h.1, h.2.1, h.2.2.1⟩ h.2.2.2 (fun i hi s1 s2 w h1 h2 => ih i hi (y.kid i) s1 s2 w h1 h2) s1 s2 w h1 h2
    · have e : ((decide (x.k = y.k) && (decide (x.n = y.n) && decide (x.s.toList = y.s.toList))) && (decide (x.len = y.len) && allTo (fun i => VT.sameB (x.kid i) (y.kid i)) x.len)) = false := by
        by_cases g1 : x.k = y.k <;> by_cases g2 : x.n = y.n <;> by_cases g3 : x.s.toList = y.s.toList <;> by_cases g4 : x.len = y.len <;> simp [g1, g2, g3, g4]
        exact absurd ⟨g1, g2, g3, g4⟩ h
      rw [e]
      exact rsameV_no x y h s1 s2 w h1 h2
end Go.Proofs.YtbgpipdbnjoeeaaDoor
