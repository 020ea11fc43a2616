/-
  The contracts of package value's SameType and of the given package gavotteref02's SameType over this seat's translation: whether two trees of types are alike. Conditions: those that each theorem states.
-/
import Derived.Test.YtjkmgmcgbpnjhaaDoorTRightA
import Derived.Test.YtjkmgmcgbpnjhaaDoorShelfV
namespace Go.Proofs.YtjkmgmcgbpnjhaaDoor
open Go.RowKit Go.ChangeShapes Go.WideShapes Go.ChangeAt Go.Deep
attribute [local go_sem ↓] Go.wp_at_zero Go.wp_at_succ

/-- How one number stands to another. -/
def sgnI (x y : Int) : Int := if x < y then -1 else if y < x then 1 else 0
theorem sgnI_lt {x y : Int} (h : x < y) : sgnI x y = -1 := by unfold sgnI; rw [if_pos h]
theorem sgnI_gt {x y : Int} (h : y < x) : sgnI x y = 1 := by unfold sgnI; rw [if_neg (by omega), if_pos h]
theorem sgnI_eq {x y : Int} (h : x = y) : sgnI x y = 0 := by unfold sgnI; rw [if_neg (by omega), if_neg (by omega)]
theorem sgnI_zero {x y : Int} : sgnI x y = 0 ↔ x = y := by unfold sgnI; (repeat' split) <;> omega
theorem rint {k : IntKind} {a b : Int} (h : a = b) : Ending.returned (.int k a) = .returned (.int k b) := by rw [h]
theorem cmpI_c (x y : Int) (w : World) : Calls Tryd.prog 81 #[.int .i64 x, .int .i64 y] w fun e w' => e = .returned (.int .i64 (sgnI x y)) ∧ w = w' := by
  refine (Tryd.cmp_Compare_int x y w).mono ?_
  rintro e w' ⟨rfl, rfl⟩
  exact ⟨rfl, rfl⟩
/-- The first that isn't nought of those below n; nought, if there is none. -/
def firstNZ (f : Nat → Int) : Nat → Int
  | 0 => 0
  | n + 1 => if firstNZ f n = 0 then f n else firstNZ f n
theorem firstNZ_zero {f : Nat → Int} : ∀ {n : Nat}, firstNZ f n = 0 ↔ ∀ i, i < n → f i = 0
  | 0 => ⟨fun _ i h => by omega, fun _ => rfl⟩
  | n + 1 => by
    show (if firstNZ f n = 0 then f n else firstNZ f n) = 0 ↔ _
    constructor
    · intro h i hi
      by_cases h0 : firstNZ f n = 0
      · rw [if_pos h0] at h
        by_cases e : i = n
        · rw [e]; exact h
        · exact firstNZ_zero.1 h0 i (by omega)
      · rw [if_neg h0] at h; exact absurd h h0
    · intro h
      rw [if_pos (firstNZ_zero.2 fun i hi => h i (by omega))]
      exact h n (by omega)
theorem firstNZ_at {f : Nat → Int} {k : Nat} (hu : ∀ i, i < k → f i = 0) (hk : f k ≠ 0) : ∀ {n : Nat}, k < n → firstNZ f n = f k
  | 0, h => by omega
  | n + 1, h => by
    show (if firstNZ f n = 0 then f n else firstNZ f n) = f k
    by_cases e : k = n
    · subst e
      rw [if_pos (firstNZ_zero.2 hu)]
    · rw [firstNZ_at hu hk (n := n) (by omega), if_neg hk]
theorem firstNZ_congr {f g : Nat → Int} : ∀ {n : Nat}, (∀ i, i < n → f i = g i) → firstNZ f n = firstNZ g n
  | 0, _ => rfl
  | n + 1, h => by
    show (if firstNZ f n = 0 then f n else firstNZ f n) = (if firstNZ g n = 0 then g n else firstNZ g n)
    rw [firstNZ_congr (n := n) fun i hi => h i (by omega), h n (by omega)]
theorem allTo_congr {f g : Nat → Bool} : ∀ {n : Nat}, (∀ i, i < n → f i = g i) → allTo f n = allTo g n
  | 0, _ => rfl
  | n + 1, h => by
    show (allTo f n && f n) = (allTo g n && g n)
    rw [allTo_congr (n := n) fun i hi => h i (by omega), h n (by omega)]

namespace TT
/-- The order of types. -/
def cmp : TT → TT → Int
  | .mk k len kids, y => if sgnI k y.k ≠ 0 then sgnI k y.k else
      if firstNZ (fun i => if h : i < len then cmp (kids ⟨i, h⟩) (y.kid i) else 0) (min len y.len) = 0 then sgnI len y.len else firstNZ (fun i => if h : i < len then cmp (kids ⟨i, h⟩) (y.kid i) else 0) (min len y.len)
/-- How two lists of items stand to each other. -/
def cmpL (x y : TT) : Int := if firstNZ (fun i => cmp (x.kid i) (y.kid i)) (min x.len y.len) = 0 then sgnI x.len y.len else firstNZ (fun i => cmp (x.kid i) (y.kid i)) (min x.len y.len)
theorem cmpL_at {x y : TT} {k : Nat} (hu : ∀ i, i < k → cmp (x.kid i) (y.kid i) = 0) (h1 : k < x.len) (h2 : k < y.len) (h : cmp (x.kid k) (y.kid k) ≠ 0) : cmpL x y = cmp (x.kid k) (y.kid k) := by
  have e := firstNZ_at (f := fun i => cmp (x.kid i) (y.kid i)) hu h (n := min x.len y.len) (by omega)
  unfold cmpL
  rw [e, if_neg h]
theorem cmpL_zero {x y : TT} {k : Nat} (hu : ∀ i, i < k → cmp (x.kid i) (y.kid i) = 0) (hk : k = min x.len y.len) : cmpL x y = sgnI x.len y.len := by
  unfold cmpL
  rw [if_pos (firstNZ_zero.2 fun i hi => hu i (by omega))]
theorem cmp_eq (x y : TT) : cmp x y = if sgnI x.k y.k ≠ 0 then sgnI x.k y.k else cmpL x y := by
  cases x with
  | mk k len kids =>
    have e : firstNZ (fun i => if h : i < len then cmp (kids ⟨i, h⟩) (y.kid i) else 0) (min len y.len) = firstNZ (fun i => cmp ((mk k len kids).kid i) (y.kid i)) (min len y.len) :=
      firstNZ_congr fun i hi => by have hil : i < len := by omega
                                   rw [dif_pos hil, kid_mk hil]
    show (if sgnI k y.k ≠ 0 then sgnI k y.k else if firstNZ _ _ = 0 then _ else _) = _
    rw [e]
    rfl
/-- Alike? -/
def sameB : TT → TT → Bool
  | .mk k len kids, y => decide (k = y.k) && (decide (len = y.len) && allTo (fun i => if h : i < len then sameB (kids ⟨i, h⟩) (y.kid i) else false) len)
theorem sameB_eq (x y : TT) : sameB x y = (decide (x.k = y.k) && (decide (x.len = y.len) && allTo (fun i => sameB (x.kid i) (y.kid i)) x.len)) := by
  cases x with
  | mk k len kids =>
    have e : allTo (fun i => if h : i < len then sameB (kids ⟨i, h⟩) (y.kid i) else false) len = allTo (fun i => sameB ((mk k len kids).kid i) (y.kid i)) len :=
      allTo_congr fun i hi => by rw [dif_pos hi, kid_mk hi]
    show (decide (k = y.k) && (decide (len = y.len) && allTo _ len)) = _
    rw [e]
    rfl
theorem cmpL_sgn (x y : TT) : cmpL x y = 0 ↔ x.len = y.len ∧ ∀ i, i < x.len → cmp (x.kid i) (y.kid i) = 0 := by
  unfold cmpL
  by_cases h : firstNZ (fun i => cmp (x.kid i) (y.kid i)) (min x.len y.len) = 0
  · rw [if_pos h, sgnI_zero]
    constructor
    · intro e
      have e : x.len = y.len := by omega
      exact ⟨e, fun i hi => firstNZ_zero.1 h i (by omega)⟩
    · intro e; omega
  · rw [if_neg h]
    constructor
    · intro e; exact absurd e h
    · rintro ⟨e, hk⟩; exact absurd (firstNZ_zero.2 fun i hi => hk i (by omega)) h
theorem cmp_zero : ∀ x y : TT, cmp x y = 0 ↔ sameB x y = true := by
  intro x
  induction x using ind with
  | h x ih =>
    intro y
    rw [cmp_eq, sameB_eq]
    by_cases hk : x.k = y.k
    · rw [if_neg (by rw [sgnI_eq hk]; simp), cmpL_sgn]
      simp only [hk, decide_true, Bool.true_and, Bool.and_eq_true, decide_eq_true_eq, allTo_true]
      constructor
      · rintro ⟨h1, h2⟩; exact ⟨h1, fun i hi => (ih i hi _).1 (h2 i hi)⟩
      · rintro ⟨h1, h2⟩; exact ⟨h1, fun i hi => (ih i hi _).2 (h2 i hi)⟩
    · have hs : sgnI x.k y.k ≠ 0 := fun e => hk (sgnI_zero.1 e)
      rw [if_pos hs]
      constructor
      · intro e; exact absurd e hs
      · simp [hk]
theorem sameB_refl : ∀ x : TT, sameB x x = true := by
  intro x
  induction x using ind with
  | h x ih =>
    rw [sameB_eq, allTo_true.2 ih]
    simp
end TT

set_option maxHeartbeats 2000000 in
theorem compareT_le (x y : TT) (hab : x.len ≤ y.len)
    (ih : ∀ i, i < x.len → i < y.len → ∀ (s1 s2 : Value) (w : World), TT.In w (x.kid i) s1 → TT.In w (y.kid i) s2 → Calls Tryd.prog 60 #[(x.kid i).val s1, (y.kid i).val s2] w fun e w' => e = .returned (.int .i64 (TT.cmp (x.kid i) (y.kid i))) ∧ Below w.heap.size w w')
    (s1 s2 : Value) (w : World) (h1 : TT.In w x s1) (h2 : TT.In w y s2) :
    Calls Tryd.prog 88 #[s1, s2, .func (.func 60) #[] #[]] w fun e w' => e = .returned (.int .i64 (TT.cmpL x y)) ∧ Below w.heap.size w w' := by
  obtain ⟨_, l1, pa, ca, rfl, la, qa, ka⟩ := h1.out
  obtain ⟨_, l2, pb, cb, rfl, lb, qb, kb⟩ := h2.out
  have HK1 := Lib.hid ka
  have HK2 := Lib.hid kb
  have HI := Lib.hid ih
  clear ka kb ih h1 h2
  have hz : ¬ y.len < x.len := by omega
  have hz2 : ¬ (y.len : Int) < (x.len : Int) := by omega
  go_enter Tryd.func88, Tryd.ntmps88
  go_wp2
  go_loopw [14] (fun vk wr => ∃ k : Nat, vk = .int .i64 k ∧ k ≤ x.len ∧ (∀ i, i < k → TT.cmp (x.kid i) (y.kid i) = 0) ∧ Below w.heap.size w wr) (fun vk _ => x.len - (intOf vk).toNat)
  case atStart => exact ⟨0, rfl, Nat.zero_le _, fun i h => by omega, Below.refl _ _⟩
  case round =>
    obtain ⟨k, rfl, hkl, hu, hbl⟩ := hrel
    have HU := Lib.hid hu
    clear hu
    by_cases hlt : k < x.len
    · have hk1 : k < x.len := by omega
      have hk2 : k < y.len := by omega
      obtain ⟨b1, o1, rfl, kk1⟩ := HK1.out (by omega)
      obtain ⟨b2, o2, rfl, kk2⟩ := HK2.out (by omega)
      obtain ⟨sl1, ⟨c0, c3⟩, i1⟩ := kk1 k hk1
      obtain ⟨sl2, ⟨d0, d3⟩, i2⟩ := kk2 k hk2
      obtain ⟨p1, q1, rfl⟩ := i1.slice
      obtain ⟨p2, q2, rfl⟩ := i2.slice
      have HN1 := Lib.hid i1
      have HN2 := Lib.hid i2
      have hc := HI.out k hk1 hk2
      generalize hcv : TT.cmp (x.kid k) (y.kid k) = c at hc
      have HC := Lib.hid hc
      have HCV := Lib.hid hcv
      clear hc hcv kk1 kk2 i1 i2 l1 l2
      replace c0 := kc hbl c0
      replace c3 := kc hbl c3
      replace d0 := kc hbl d0
      replace d3 := kc hbl d3
      go_wp2_with fail
      go_region_held3 (fun w' => w'.cell? ⟨b1, o1 + k * 2, none⟩ = some (.int .i64 (x.kid k).k) ∧ w'.cell? ⟨b1, o1 + k * 2 + 1, none⟩ = some (.slice p1 (x.kid k).len q1) ∧ w'.cell? ⟨b2, o2 + k * 2, none⟩ = some (.int .i64 (y.kid k).k) ∧ w'.cell? ⟨b2, o2 + k * 2 + 1, none⟩ = some (.slice p2 (y.kid k).len q2) ∧ Below w.heap.size w w')
        (first | exact ⟨c0, c3, d0, d3, Below.drew hbl⟩ | (go_split_ands; exact ⟨kc hb (by assumption), kc hb (by assumption), kc hb (by assumption), kc hb (by assumption), bT (by assumption) hb⟩) | go_keep)
        (first | (go_at_call 60; refine (HC.out _ _ _ (inT (by repeat (first | with_reducible assumption | with_reducible exact Below.refl _ _ | with_reducible refine bN ?_ _ | with_reducible refine Below.drew ?_ | with_reducible refine bA ?_ _ | with_reducible refine bT ?_ (by assumption))) HN1.out) (inT (by repeat (first | with_reducible assumption | with_reducible exact Below.refl _ _ | with_reducible refine bN ?_ _ | with_reducible refine Below.drew ?_ | with_reducible refine bA ?_ _ | with_reducible refine bT ?_ (by assumption))) HN2.out)).mono ?_; rintro e w3 ⟨rfl, hb⟩))
      all_goals go_split_ands
      all_goals
        have WB : Below w.heap.size w w3 := by assumption
        clear c0 c3 d0 d3
        by_cases hz0 : c = 0
        · subst hz0
          go_wp2
          go_roundw
          case rel =>
            refine ⟨k + 1, by go_num, by omega, fun i hi => ?_, WB⟩
            by_cases e : i = k
            · rw [e]; exact HCV.out
            · exact HU.out i (by omega)
          case measure => simp [intOf]; omega
        · have hv : TT.cmpL x y = c := by rw [← HCV.out]; exact TT.cmpL_at (k := k) HU.out (by omega) (by omega) (by rw [HCV.out]; exact hz0)
          have HV := Lib.hid hv
          have hz1 : (c != 0) = true := by simpa using hz0
          clear hv hz0
          go_wp2
          go_ret
          exact ⟨rint HV.out.symm, WB⟩
    · have hkm : k = x.len := by omega
      subst hkm
      by_cases he : x.len < y.len
      · have hv2 : TT.cmpL x y = -1 := by rw [TT.cmpL_zero (HU.out) (by omega), sgnI_lt (by omega)]
        have HV := Lib.hid hv2
        clear hv2
        go_wp2
        go_ret
        exact ⟨rint HV.out.symm, hbl⟩
      · have hv2 : TT.cmpL x y = 0 := by rw [TT.cmpL_zero (HU.out) (by omega), sgnI_eq (by omega)]
        have HV := Lib.hid hv2
        clear hv2
        have he2 : ¬ y.len < x.len := by omega
        go_wp2
        go_ret
        exact ⟨rint HV.out.symm, hbl⟩

set_option maxHeartbeats 2000000 in
theorem compareT_gt (x y : TT) (hab : y.len < x.len)
    (ih : ∀ i, i < x.len → i < y.len → ∀ (s1 s2 : Value) (w : World), TT.In w (x.kid i) s1 → TT.In w (y.kid i) s2 → Calls Tryd.prog 60 #[(x.kid i).val s1, (y.kid i).val s2] w fun e w' => e = .returned (.int .i64 (TT.cmp (x.kid i) (y.kid i))) ∧ Below w.heap.size w w')
    (s1 s2 : Value) (w : World) (h1 : TT.In w x s1) (h2 : TT.In w y s2) :
    Calls Tryd.prog 88 #[s1, s2, .func (.func 60) #[] #[]] w fun e w' => e = .returned (.int .i64 (TT.cmpL x y)) ∧ Below w.heap.size w w' := by
  obtain ⟨_, l1, pa, ca, rfl, la, qa, ka⟩ := h1.out
  obtain ⟨_, l2, pb, cb, rfl, lb, qb, kb⟩ := h2.out
  have HK1 := Lib.hid ka
  have HK2 := Lib.hid kb
  have HI := Lib.hid ih
  clear ka kb ih h1 h2
  go_enter Tryd.func88, Tryd.ntmps88
  go_wp2
  go_loopw [14] (fun vk wr => ∃ k : Nat, vk = .int .i64 k ∧ k ≤ y.len ∧ (∀ i, i < k → TT.cmp (x.kid i) (y.kid i) = 0) ∧ Below w.heap.size w wr) (fun vk _ => y.len - (intOf vk).toNat)
  case atStart => exact ⟨0, rfl, Nat.zero_le _, fun i h => by omega, Below.refl _ _⟩
  case round =>
    obtain ⟨k, rfl, hkl, hu, hbl⟩ := hrel
    have HU := Lib.hid hu
    clear hu
    by_cases hlt : k < y.len
    · have hk1 : k < x.len := by omega
      have hk2 : k < y.len := by omega
      obtain ⟨b1, o1, rfl, kk1⟩ := HK1.out (by omega)
      obtain ⟨b2, o2, rfl, kk2⟩ := HK2.out (by omega)
      obtain ⟨sl1, ⟨c0, c3⟩, i1⟩ := kk1 k hk1
      obtain ⟨sl2, ⟨d0, d3⟩, i2⟩ := kk2 k hk2
      obtain ⟨p1, q1, rfl⟩ := i1.slice
      obtain ⟨p2, q2, rfl⟩ := i2.slice
      have HN1 := Lib.hid i1
      have HN2 := Lib.hid i2
      have hc := HI.out k hk1 hk2
      generalize hcv : TT.cmp (x.kid k) (y.kid k) = c at hc
      have HC := Lib.hid hc
      have HCV := Lib.hid hcv
      clear hc hcv kk1 kk2 i1 i2 l1 l2
      replace c0 := kc hbl c0
      replace c3 := kc hbl c3
      replace d0 := kc hbl d0
      replace d3 := kc hbl d3
      go_wp2_with fail
      go_region_held3 (fun w' => w'.cell? ⟨b1, o1 + k * 2, none⟩ = some (.int .i64 (x.kid k).k) ∧ w'.cell? ⟨b1, o1 + k * 2 + 1, none⟩ = some (.slice p1 (x.kid k).len q1) ∧ w'.cell? ⟨b2, o2 + k * 2, none⟩ = some (.int .i64 (y.kid k).k) ∧ w'.cell? ⟨b2, o2 + k * 2 + 1, none⟩ = some (.slice p2 (y.kid k).len q2) ∧ Below w.heap.size w w')
        (first | exact ⟨c0, c3, d0, d3, Below.drew hbl⟩ | (go_split_ands; exact ⟨kc hb (by assumption), kc hb (by assumption), kc hb (by assumption), kc hb (by assumption), bT (by assumption) hb⟩) | go_keep)
        (first | (go_at_call 60; refine (HC.out _ _ _ (inT (by repeat (first | with_reducible assumption | with_reducible exact Below.refl _ _ | with_reducible refine bN ?_ _ | with_reducible refine Below.drew ?_ | with_reducible refine bA ?_ _ | with_reducible refine bT ?_ (by assumption))) HN1.out) (inT (by repeat (first | with_reducible assumption | with_reducible exact Below.refl _ _ | with_reducible refine bN ?_ _ | with_reducible refine Below.drew ?_ | with_reducible refine bA ?_ _ | with_reducible refine bT ?_ (by assumption))) HN2.out)).mono ?_; rintro e w3 ⟨rfl, hb⟩))
      all_goals go_split_ands
      all_goals
        have WB : Below w.heap.size w w3 := by assumption
        clear c0 c3 d0 d3
        by_cases hz0 : c = 0
        · subst hz0
          go_wp2
          go_roundw
          case rel =>
            refine ⟨k + 1, by go_num, by omega, fun i hi => ?_, WB⟩
            by_cases e : i = k
            · rw [e]; exact HCV.out
            · exact HU.out i (by omega)
          case measure => simp [intOf]; omega
        · have hv : TT.cmpL x y = c := by rw [← HCV.out]; exact TT.cmpL_at (k := k) HU.out (by omega) (by omega) (by rw [HCV.out]; exact hz0)
          have HV := Lib.hid hv
          have hz1 : (c != 0) = true := by simpa using hz0
          clear hv hz0
          go_wp2
          go_ret
          exact ⟨rint HV.out.symm, WB⟩
    · have hkm : k = y.len := by omega
      subst hkm
      have hv2 : TT.cmpL x y = 1 := by rw [TT.cmpL_zero (HU.out) (by omega), sgnI_gt (by omega)]
      have HV := Lib.hid hv2
      clear hv2
      have he : ¬ x.len < y.len := by omega
      go_wp2
      go_ret
      exact ⟨rint HV.out.symm, hbl⟩

theorem compareT_c (x y : TT)
    (ih : ∀ i, i < x.len → i < y.len → ∀ (s1 s2 : Value) (w : World), TT.In w (x.kid i) s1 → TT.In w (y.kid i) s2 → Calls Tryd.prog 60 #[(x.kid i).val s1, (y.kid i).val s2] w fun e w' => e = .returned (.int .i64 (TT.cmp (x.kid i) (y.kid i))) ∧ Below w.heap.size w w')
    (s1 s2 : Value) (w : World) (h1 : TT.In w x s1) (h2 : TT.In w y s2) :
    Calls Tryd.prog 88 #[s1, s2, .func (.func 60) #[] #[]] w fun e w' => e = .returned (.int .i64 (TT.cmpL x y)) ∧ Below w.heap.size w w' := by
  by_cases h : x.len ≤ y.len
  · exact compareT_le x y h ih s1 s2 w h1 h2
  · exact compareT_gt x y (by omega) ih s1 s2 w h1 h2

set_option maxHeartbeats 1000000 in
theorem orderT_step (x y : TT)
    (ih : ∀ (s1 s2 : Value) (w : World), TT.In w x s1 → TT.In w y s2 → Calls Tryd.prog 88 #[s1, s2, .func (.func 60) #[] #[]] w fun e w' => e = .returned (.int .i64 (TT.cmpL x y)) ∧ Below w.heap.size w w')
    (s1 s2 : Value) (w : World) (h1 : TT.In w x s1) (h2 : TT.In w y s2) :
    Calls Tryd.prog 60 #[x.val s1, y.val s2] w fun e w' => e = .returned (.int .i64 (TT.cmp x y)) ∧ Below w.heap.size w w' := by
  have HI := Lib.hid ih
  have HN1 := Lib.hid h1
  have HN2 := Lib.hid h2
  obtain ⟨p1, q1, rfl⟩ := h1.slice
  obtain ⟨p2, q2, rfl⟩ := h2.slice
  have hv := TT.cmp_eq x y
  clear ih h1 h2
  unfold TT.val
  by_cases hk : x.k = y.k
  · rw [if_neg (by rw [sgnI_eq hk]; simp)] at hv
    have HV := Lib.hid hv
    have kc0 := cmpI_c x.k y.k
    rw [sgnI_eq hk] at kc0
    have KC := Lib.hid kc0
    clear hv kc0 hk
    go_enter Tryd.func60, Tryd.ntmps60
    go_wp2_with (first
      | (go_at_call 81; go_must (refine (KC.out _).mono ?_); rintro e w2 ⟨rfl, rfl⟩)
      | (go_at_call 88; go_must (refine (HI.out _ _ _ (inT (bA (bA (Below.refl _ _) _) _) HN1.out) (inT (bA (bA (Below.refl _ _) _) _) HN2.out)).mono ?_); rintro e w3 ⟨rfl, hb⟩))
    go_ret
    exact ⟨rint HV.out.symm, bT (bA (bA (Below.refl _ _) _) _) hb⟩
  · have hs : sgnI x.k y.k ≠ 0 := fun e => hk (sgnI_zero.1 e)
    rw [if_pos hs] at hv
    have HV := Lib.hid hv
    have kc0 := cmpI_c x.k y.k
    generalize sgnI x.k y.k = c at *
    have hz : (c != 0) = true := by simpa using hs
    have KC := Lib.hid kc0
    clear hv kc0 hk hs
    go_enter Tryd.func60, Tryd.ntmps60
    go_wp2_with (go_at_call 81; go_must (refine (KC.out _).mono ?_); rintro e w2 ⟨rfl, rfl⟩)
    go_ret
    exact ⟨rint HV.out.symm, bA (bA (Below.refl _ _) _) _⟩

theorem orderT_c : ∀ (x y : TT) (s1 s2 : Value) (w : World), TT.In w x s1 → TT.In w y s2 →
    Calls Tryd.prog 60 #[x.val s1, y.val s2] w fun e w' => e = .returned (.int .i64 (TT.cmp x y)) ∧ Below w.heap.size w w' := by
  intro x
  induction x using TT.ind with
  | h x ih =>
    intro y s1 s2 w h1 h2
    exact orderT_step x y (fun s1 s2 w h1 h2 => compareT_c x y (fun i hi _ s1 s2 w h1 h2 => ih i hi (y.kid i) s1 s2 w h1 h2) s1 s2 w h1 h2) s1 s2 w h1 h2

set_option maxHeartbeats 1000000 in
theorem sameT_cv (x y : TT) (s1 s2 : Value) (w : World) (h1 : TT.In w x s1) (h2 : TT.In w y s2) :
    Calls Tryd.prog 26 #[x.val s1, y.val s2] w fun e w' => e = .returned (.bool (TT.sameB x y)) ∧ Below w.heap.size w w' := by
  have HI := Lib.hid (orderT_c x y s1 s2)
  have HN1 := Lib.hid h1
  have HN2 := Lib.hid h2
  obtain ⟨p1, q1, rfl⟩ := h1.slice
  obtain ⟨p2, q2, rfl⟩ := h2.slice
  have hv : TT.sameB x y = (TT.cmp x y == 0) := by rw [Bool.eq_iff_iff, ← TT.cmp_zero]; simp
  have HV := Lib.hid hv
  clear h1 h2 hv
  generalize TT.cmp x y = c at *
  unfold TT.val at HI ⊢
  go_enter Tryd.func26, Tryd.ntmps26
  go_wp2_with (go_at_call 60; go_must (refine (HI.out _ (inT (bA (bA (Below.refl _ _) _) _) HN1.out) (inT (bA (bA (Below.refl _ _) _) _) HN2.out)).mono ?_); rintro e w3 ⟨rfl, hb⟩)
  go_ret
  exact ⟨rbool HV.out.symm, bT (bA (bA (Below.refl _ _) _) _) hb⟩
end Go.Proofs.YtjkmgmcgbpnjhaaDoor
