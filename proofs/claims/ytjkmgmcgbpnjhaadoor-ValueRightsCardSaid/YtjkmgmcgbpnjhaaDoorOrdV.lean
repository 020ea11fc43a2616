/-
  The contracts of package value's Cmp and Same over this seat's translation. Conditions: those that each theorem states.
-/
import Derived.Test.YtjkmgmcgbpnjhaaDoorOrdT
import Derived.Test.YtjkmgmcgbpnjhaaDoorRightB
namespace Go.Proofs.YtjkmgmcgbpnjhaaDoor
open Go.RowKit Go.ChangeShapes Go.WideShapes Go.ChangeAt Go.Deep
attribute [local go_sem ↓] Go.wp_at_zero Go.wp_at_succ


/-! ### Bytes in their order -/
abbrev strL (a b : List UInt8) : Int := Lib.compareBytes a b
theorem strL_zero : ∀ {a b : List UInt8}, strL a b = 0 ↔ a = b
  | [], [] => ⟨fun _ => rfl, fun _ => rfl⟩
  | [], _ :: _ => by simp [strL, Lib.compareBytes]
  | _ :: _, [] => by simp [strL, Lib.compareBytes]
  | x :: a, y :: b => by
    unfold strL Lib.compareBytes
    by_cases h : x < y
    · rw [if_pos h]
      constructor
      · intro e; exact absurd e (by decide)
      · intro e; injection e with e1 _; subst e1; exact absurd h (UInt8.lt_irrefl _)
    · rw [if_neg h]
      by_cases h2 : y < x
      · rw [if_pos h2]
        constructor
        · intro e; exact absurd e (by decide)
        · intro e; injection e with e1 _; subst e1; exact absurd h2 (UInt8.lt_irrefl _)
      · rw [if_neg h2]
        have e : x = y := UInt8.le_antisymm (UInt8.not_lt.1 h2) (UInt8.not_lt.1 h)
        subst e
        have := strL_zero (a := a) (b := b)
        constructor
        · intro k; rw [this.1 k]
        · intro k; injection k with _ k; exact this.2 k
theorem strL_three : ∀ (a b : List UInt8), strL a b = -1 ∨ strL a b = 0 ∨ strL a b = 1
  | [], [] => .inr (.inl rfl)
  | [], _ :: _ => .inl rfl
  | _ :: _, [] => .inr (.inr rfl)
  | x :: a, y :: b => by
    unfold strL Lib.compareBytes
    by_cases h : x < y
    · rw [if_pos h]; exact .inl rfl
    · rw [if_neg h]
      by_cases h2 : y < x
      · rw [if_pos h2]; exact .inr (.inr rfl)
      · rw [if_neg h2]; exact strL_three a b
theorem strL_less : ∀ (a b : List UInt8), Op.bytesLess a b = decide (strL a b = -1)
  | [], [] => rfl
  | [], _ :: _ => rfl
  | _ :: _, [] => rfl
  | x :: a, y :: b => by
    show (decide (x < y) || (x == y && Op.bytesLess a b)) = _
    unfold strL Lib.compareBytes
    by_cases h : x < y
    · rw [if_pos h, decide_eq_true h]; rfl
    · rw [if_neg h, decide_eq_false h]
      by_cases h2 : y < x
      · rw [if_pos h2]
        have e : (x == y) = false := by
          rw [beq_eq_false_iff_ne]
          intro e; subst e; exact UInt8.lt_irrefl _ h2
        rw [e]; rfl
      · rw [if_neg h2]
        have e : x = y := UInt8.le_antisymm (UInt8.not_lt.1 h2) (UInt8.not_lt.1 h)
        subst e
        rw [strL_less a b]
        simp
theorem cmpS_c (x y : ByteArray) (w : World) : Calls Tryd.prog 82 #[.string x, .string y] w fun e w' => e = .returned (.int .i64 (strL x.toList y.toList)) ∧ w = w' := by
  refine (Tryd.strings_Compare x y w).mono ?_
  rintro e w' ⟨rfl, rfl⟩
  exact ⟨by rw [ByteArray.toList_eq, ByteArray.toList_eq], rfl⟩
def or3 (a b c : Int) : Int := if a = 0 then (if b = 0 then c else b) else a
theorem or3_zero {a b c : Int} : or3 a b c = 0 ↔ a = 0 ∧ b = 0 ∧ c = 0 := by unfold or3; (repeat' split) <;> omega

set_option maxHeartbeats 1000000 in
theorem or3_c (b : Nat) (x y z : Int) (w : World) (hx : w.cell? ⟨b, 0, none⟩ = some (.int .i64 x)) (hy : w.cell? ⟨b, 1, none⟩ = some (.int .i64 y)) (hz : w.cell? ⟨b, 2, none⟩ = some (.int .i64 z)) :
    Calls Tryd.prog 80 #[.slice (some ⟨b, 0, none⟩) 3 3] w fun e w' => e = .returned (.int .i64 (or3 x y z)) ∧ w = w' := by
  by_cases h : x = 0
  · subst h
    by_cases h : y = 0
    · subst h
      by_cases h : z = 0
      · subst h
        go_enter Tryd.func80, Tryd.ntmps80
        go_wp2
        refine wp_loop_rounds 4 ?_
        repeat (rw [rounds_succ]; go_wp2)
        go_ret
        exact ⟨rfl, rfl⟩
      · have hb : (z != 0) = true := by simpa using h
        go_enter Tryd.func80, Tryd.ntmps80
        go_wp2
        refine wp_loop_rounds 4 ?_
        rw [rounds_succ]; go_wp2
        rw [rounds_succ]; go_wp2
        rw [rounds_succ]; go_wp2
        go_ret
        exact ⟨rfl, rfl⟩
    · have hb : (y != 0) = true := by simpa using h
      go_enter Tryd.func80, Tryd.ntmps80
      go_wp2
      refine wp_loop_rounds 4 ?_
      rw [rounds_succ]; go_wp2
      rw [rounds_succ]; go_wp2
      go_ret
      exact ⟨rint (by unfold or3; rw [if_pos rfl, if_neg h]), rfl⟩
  · have hb : (x != 0) = true := by simpa using h
    go_enter Tryd.func80, Tryd.ntmps80
    go_wp2
    refine wp_loop_rounds 4 ?_
    rw [rounds_succ]; go_wp2
    go_ret
    exact ⟨rint (by unfold or3; rw [if_neg h]), rfl⟩

namespace VT
/-- The order of the roots alone. -/
def cmpR (x y : VT) : Int := or3 (sgnI x.k y.k) (sgnI x.n y.n) (strL x.s.toList y.s.toList)
/-- The order of values. -/
def cmp : VT → VT → Int
  | .mk k n s len kids, y => if or3 (sgnI k y.k) (sgnI n y.n) (strL s.toList y.s.toList) ≠ 0 then or3 (sgnI k y.k) (sgnI n y.n) (strL s.toList y.s.toList) else
      if firstNZ (fun i => if h : i < len then cmp (kids ⟨i, h⟩) (y.kid i) else 0) (min len y.len) = 0 then sgnI len y.len else firstNZ (fun i => if h : i < len then cmp (kids ⟨i, h⟩) (y.kid i) else 0) (min len y.len)
/-- How two lists of items stand to each other. -/
def cmpL (x y : VT) : Int := if firstNZ (fun i => cmp (x.kid i) (y.kid i)) (min x.len y.len) = 0 then sgnI x.len y.len else firstNZ (fun i => cmp (x.kid i) (y.kid i)) (min x.len y.len)
theorem cmpL_at {x y : VT} {k : Nat} (hu : ∀ i, i < k → cmp (x.kid i) (y.kid i) = 0) (h1 : k < x.len) (h2 : k < y.len) (h : cmp (x.kid k) (y.kid k) ≠ 0) : cmpL x y = cmp (x.kid k) (y.kid k) := by
  have e := firstNZ_at (f := fun i => cmp (x.kid i) (y.kid i)) hu h (n := min x.len y.len) (by omega)
  unfold cmpL
  rw [e, if_neg h]
theorem cmpL_zero {x y : VT} {k : Nat} (hu : ∀ i, i < k → cmp (x.kid i) (y.kid i) = 0) (hk : k = min x.len y.len) : cmpL x y = sgnI x.len y.len := by
  unfold cmpL
  rw [if_pos (firstNZ_zero.2 fun i hi => hu i (by omega))]
theorem cmp_eq (x y : VT) : cmp x y = if cmpR x y ≠ 0 then cmpR x y else cmpL x y := by
  cases x with
  | mk k n s len kids =>
    have e : firstNZ (fun i => if h : i < len then cmp (kids ⟨i, h⟩) (y.kid i) else 0) (min len y.len) = firstNZ (fun i => cmp ((mk k n s len kids).kid i) (y.kid i)) (min len y.len) :=
      firstNZ_congr fun i hi => by have hil : i < len := by omega
                                   rw [dif_pos hil, kid_mk hil]
    show (if or3 _ _ _ ≠ 0 then _ else if firstNZ _ _ = 0 then _ else _) = _
    rw [e]
    rfl
/-- Alike? -/
def sameB : VT → VT → Bool
  | .mk k n s len kids, y => (decide (k = y.k) && (decide (n = y.n) && decide (s.toList = y.s.toList))) && (decide (len = y.len) && allTo (fun i => if h : i < len then sameB (kids ⟨i, h⟩) (y.kid i) else false) len)
theorem sameB_eq (x y : VT) : sameB x y = ((decide (x.k = y.k) && (decide (x.n = y.n) && decide (x.s.toList = y.s.toList))) && (decide (x.len = y.len) && allTo (fun i => sameB (x.kid i) (y.kid i)) x.len)) := by
  cases x with
  | mk k n s len kids =>
    have e : allTo (fun i => if h : i < len then sameB (kids ⟨i, h⟩) (y.kid i) else false) len = allTo (fun i => sameB ((mk k n s len kids).kid i) (y.kid i)) len :=
      allTo_congr fun i hi => by rw [dif_pos hi, kid_mk hi]
    show ((decide (k = y.k) && (decide (n = y.n) && decide (s.toList = y.s.toList))) && (decide (len = y.len) && allTo _ len)) = _
    rw [e]
    rfl
theorem cmpL_sgn (x y : VT) : cmpL x y = 0 ↔ x.len = y.len ∧ ∀ i, i < x.len → cmp (x.kid i) (y.kid i) = 0 := by
  unfold cmpL
  by_cases h : firstNZ (fun i => cmp (x.kid i) (y.kid i)) (min x.len y.len) = 0
  · rw [if_pos h, sgnI_zero]
    constructor
    · intro e
      have e : x.len = y.len := by omega
      exact ⟨e, fun i hi => firstNZ_zero.1 h i (by omega)⟩
    · intro e; omega
  · rw [if_neg h]
    constructor
    · intro e; exact absurd e h
    · rintro ⟨e, hk⟩; exact absurd (firstNZ_zero.2 fun i hi => hk i (by omega)) h
theorem cmpR_zero (x y : VT) : cmpR x y = 0 ↔ x.k = y.k ∧ x.n = y.n ∧ x.s.toList = y.s.toList := by
  unfold cmpR
  rw [or3_zero, sgnI_zero, sgnI_zero, strL_zero]
theorem cmp_zero : ∀ x y : VT, cmp x y = 0 ↔ sameB x y = true := by
  intro x
  induction x using ind with
  | h x ih =>
    intro y
    rw [cmp_eq, sameB_eq]
    by_cases hk : cmpR x y = 0
    · rw [if_neg (by simp [hk]), cmpL_sgn]
      obtain ⟨h1, h2, h3⟩ := (cmpR_zero x y).1 hk
      simp only [h1, h2, h3, decide_true, Bool.true_and, Bool.and_eq_true, decide_eq_true_eq, allTo_true]
      constructor
      · rintro ⟨h1, h2⟩; exact ⟨h1, fun i hi => (ih i hi _).1 (h2 i hi)⟩
      · rintro ⟨h1, h2⟩; exact ⟨h1, fun i hi => (ih i hi _).2 (h2 i hi)⟩
    · rw [if_pos hk]
      constructor
      · intro e; exact absurd e hk
      · intro e
        simp only [Bool.and_eq_true, decide_eq_true_eq] at e
        exact absurd ((cmpR_zero x y).2 ⟨e.1.1, e.1.2.1, e.1.2.2⟩) hk
theorem sameB_refl : ∀ x : VT, sameB x x = true := by
  intro x
  induction x using ind with
  | h x ih =>
    rw [sameB_eq, allTo_true.2 ih]
    simp
end VT

set_option maxHeartbeats 2000000 in
theorem compareV_le (x y : VT) (hab : x.len ≤ y.len)
    (ih : ∀ i, i < x.len → i < y.len → ∀ (s1 s2 : Value) (w : World), VT.In w (x.kid i) s1 → VT.In w (y.kid i) s2 → Calls Tryd.prog 55 #[(x.kid i).val s1, (y.kid i).val s2] w fun e w' => e = .returned (.int .i64 (VT.cmp (x.kid i) (y.kid i))) ∧ Below w.heap.size w w')
    (s1 s2 : Value) (w : World) (h1 : VT.In w x s1) (h2 : VT.In w y s2) :
    Calls Tryd.prog 83 #[s1, s2, .func (.func 55) #[] #[]] w fun e w' => e = .returned (.int .i64 (VT.cmpL x y)) ∧ Below w.heap.size w w' := by
  obtain ⟨_, _, _, l1, pa, ca, rfl, la, qa, ka⟩ := h1.out
  obtain ⟨_, _, _, l2, pb, cb, rfl, lb, qb, kb⟩ := h2.out
  have HK1 := Lib.hid ka
  have HK2 := Lib.hid kb
  have HI := Lib.hid ih
  clear ka kb ih h1 h2
  have hz : ¬ y.len < x.len := by omega
  have hz2 : ¬ (y.len : Int) < (x.len : Int) := by omega
  go_enter Tryd.func83, Tryd.ntmps83
  go_wp2
  go_loopw [14] (fun vk wr => ∃ k : Nat, vk = .int .i64 k ∧ k ≤ x.len ∧ (∀ i, i < k → VT.cmp (x.kid i) (y.kid i) = 0) ∧ Below w.heap.size w wr) (fun vk _ => x.len - (intOf vk).toNat)
  case atStart => exact ⟨0, rfl, Nat.zero_le _, fun i h => by omega, Below.refl _ _⟩
  case round =>
    obtain ⟨k, rfl, hkl, hu, hbl⟩ := hrel
    have HU := Lib.hid hu
    clear hu
    by_cases hlt : k < x.len
    · have hk1 : k < x.len := by omega
      have hk2 : k < y.len := by omega
      obtain ⟨b1, o1, rfl, kk1⟩ := HK1.out (by omega)
      obtain ⟨b2, o2, rfl, kk2⟩ := HK2.out (by omega)
      obtain ⟨sl1, ⟨c0, c1, c2, c3⟩, i1⟩ := kk1 k hk1
      obtain ⟨sl2, ⟨d0, d1, d2, d3⟩, i2⟩ := kk2 k hk2
      obtain ⟨p1, q1, rfl⟩ := i1.slice
      obtain ⟨p2, q2, rfl⟩ := i2.slice
      have HN1 := Lib.hid i1
      have HN2 := Lib.hid i2
      have hc := HI.out k hk1 hk2
      generalize hcv : VT.cmp (x.kid k) (y.kid k) = c at hc
      have HC := Lib.hid hc
      have HCV := Lib.hid hcv
      clear hc hcv kk1 kk2 i1 i2 l1 l2
      replace c0 := kc hbl c0
      replace c1 := kc hbl c1
      replace c2 := kc hbl c2
      replace c3 := kc hbl c3
      replace d0 := kc hbl d0
      replace d1 := kc hbl d1
      replace d2 := kc hbl d2
      replace d3 := kc hbl d3
      go_wp2_with fail
      go_region_held3 (fun w' => w'.cell? ⟨b1, o1 + k * 4, none⟩ = some (.int .i64 (x.kid k).k) ∧ w'.cell? ⟨b1, o1 + k * 4 + 1, none⟩ = some (.int .i64 (x.kid k).n) ∧ w'.cell? ⟨b1, o1 + k * 4 + 2, none⟩ = some (.string (x.kid k).s) ∧ w'.cell? ⟨b1, o1 + k * 4 + 3, none⟩ = some (.slice p1 (x.kid k).len q1) ∧ w'.cell? ⟨b2, o2 + k * 4, none⟩ = some (.int .i64 (y.kid k).k) ∧ w'.cell? ⟨b2, o2 + k * 4 + 1, none⟩ = some (.int .i64 (y.kid k).n) ∧ w'.cell? ⟨b2, o2 + k * 4 + 2, none⟩ = some (.string (y.kid k).s) ∧ w'.cell? ⟨b2, o2 + k * 4 + 3, none⟩ = some (.slice p2 (y.kid k).len q2) ∧ Below w.heap.size w w')
        (first | exact ⟨c0, c1, c2, c3, d0, d1, d2, d3, Below.drew hbl⟩ | (go_split_ands; exact ⟨kc hb (by assumption), kc hb (by assumption), kc hb (by assumption), kc hb (by assumption), kc hb (by assumption), kc hb (by assumption), kc hb (by assumption), kc hb (by assumption), bT (by assumption) hb⟩) | go_keep)
        (first | (go_at_call 55; refine (HC.out _ _ _ (inK (by repeat (first | with_reducible assumption | with_reducible exact Below.refl _ _ | with_reducible refine bN ?_ _ | with_reducible refine Below.drew ?_ | with_reducible refine bA ?_ _ | with_reducible refine bT ?_ (by assumption))) HN1.out) (inK (by repeat (first | with_reducible assumption | with_reducible exact Below.refl _ _ | with_reducible refine bN ?_ _ | with_reducible refine Below.drew ?_ | with_reducible refine bA ?_ _ | with_reducible refine bT ?_ (by assumption))) HN2.out)).mono ?_; rintro e w3 ⟨rfl, hb⟩))
      all_goals go_split_ands
      all_goals
        have WB : Below w.heap.size w w3 := by assumption
        clear c0 c1 c2 c3 d0 d1 d2 d3
        by_cases hz0 : c = 0
        · subst hz0
          go_wp2
          go_roundw
          case rel =>
            refine ⟨k + 1, by go_num, by omega, fun i hi => ?_, WB⟩
            by_cases e : i = k
            · rw [e]; exact HCV.out
            · exact HU.out i (by omega)
          case measure => simp [intOf]; omega
        · have hv : VT.cmpL x y = c := by rw [← HCV.out]; exact VT.cmpL_at (k := k) HU.out (by omega) (by omega) (by rw [HCV.out]; exact hz0)
          have HV := Lib.hid hv
          have hz1 : (c != 0) = true := by simpa using hz0
          clear hv hz0
          go_wp2
          go_ret
          exact ⟨rint HV.out.symm, WB⟩
    · have hkm : k = x.len := by omega
      subst hkm
      by_cases he : x.len < y.len
      · have hv2 : VT.cmpL x y = -1 := by rw [VT.cmpL_zero (HU.out) (by omega), sgnI_lt (by omega)]
        have HV := Lib.hid hv2
        clear hv2
        go_wp2
        go_ret
        exact ⟨rint HV.out.symm, hbl⟩
      · have hv2 : VT.cmpL x y = 0 := by rw [VT.cmpL_zero (HU.out) (by omega), sgnI_eq (by omega)]
        have HV := Lib.hid hv2
        clear hv2
        have he2 : ¬ y.len < x.len := by omega
        go_wp2
        go_ret
        exact ⟨rint HV.out.symm, hbl⟩

set_option maxHeartbeats 2000000 in
theorem compareV_gt (x y : VT) (hab : y.len < x.len)
    (ih : ∀ i, i < x.len → i < y.len → ∀ (s1 s2 : Value) (w : World), VT.In w (x.kid i) s1 → VT.In w (y.kid i) s2 → Calls Tryd.prog 55 #[(x.kid i).val s1, (y.kid i).val s2] w fun e w' => e = .returned (.int .i64 (VT.cmp (x.kid i) (y.kid i))) ∧ Below w.heap.size w w')
    (s1 s2 : Value) (w : World) (h1 : VT.In w x s1) (h2 : VT.In w y s2) :
    Calls Tryd.prog 83 #[s1, s2, .func (.func 55) #[] #[]] w fun e w' => e = .returned (.int .i64 (VT.cmpL x y)) ∧ Below w.heap.size w w' := by
  obtain ⟨_, _, _, l1, pa, ca, rfl, la, qa, ka⟩ := h1.out
  obtain ⟨_, _, _, l2, pb, cb, rfl, lb, qb, kb⟩ := h2.out
  have HK1 := Lib.hid ka
  have HK2 := Lib.hid kb
  have HI := Lib.hid ih
  clear ka kb ih h1 h2
  go_enter Tryd.func83, Tryd.ntmps83
  go_wp2
  go_loopw [14] (fun vk wr => ∃ k : Nat, vk = .int .i64 k ∧ k ≤ y.len ∧ (∀ i, i < k → VT.cmp (x.kid i) (y.kid i) = 0) ∧ Below w.heap.size w wr) (fun vk _ => y.len - (intOf vk).toNat)
  case atStart => exact ⟨0, rfl, Nat.zero_le _, fun i h => by omega, Below.refl _ _⟩
  case round =>
    obtain ⟨k, rfl, hkl, hu, hbl⟩ := hrel
    have HU := Lib.hid hu
    clear hu
    by_cases hlt : k < y.len
    · have hk1 : k < x.len := by omega
      have hk2 : k < y.len := by omega
      obtain ⟨b1, o1, rfl, kk1⟩ := HK1.out (by omega)
      obtain ⟨b2, o2, rfl, kk2⟩ := HK2.out (by omega)
      obtain ⟨sl1, ⟨c0, c1, c2, c3⟩, i1⟩ := kk1 k hk1
      obtain ⟨sl2, ⟨d0, d1, d2, d3⟩, i2⟩ := kk2 k hk2
      obtain ⟨p1, q1, rfl⟩ := i1.slice
      obtain ⟨p2, q2, rfl⟩ := i2.slice
      have HN1 := Lib.hid i1
      have HN2 := Lib.hid i2
      have hc := HI.out k hk1 hk2
      generalize hcv : VT.cmp (x.kid k) (y.kid k) = c at hc
      have HC := Lib.hid hc
      have HCV := Lib.hid hcv
      clear hc hcv kk1 kk2 i1 i2 l1 l2
      replace c0 := kc hbl c0
      replace c1 := kc hbl c1
      replace c2 := kc hbl c2
      replace c3 := kc hbl c3
      replace d0 := kc hbl d0
      replace d1 := kc hbl d1
      replace d2 := kc hbl d2
      replace d3 := kc hbl d3
      go_wp2_with fail
      go_region_held3 (fun w' => w'.cell? ⟨b1, o1 + k * 4, none⟩ = some (.int .i64 (x.kid k).k) ∧ w'.cell? ⟨b1, o1 + k * 4 + 1, none⟩ = some (.int .i64 (x.kid k).n) ∧ w'.cell? ⟨b1, o1 + k * 4 + 2, none⟩ = some (.string (x.kid k).s) ∧ w'.cell? ⟨b1, o1 + k * 4 + 3, none⟩ = some (.slice p1 (x.kid k).len q1) ∧ w'.cell? ⟨b2, o2 + k * 4, none⟩ = some (.int .i64 (y.kid k).k) ∧ w'.cell? ⟨b2, o2 + k * 4 + 1, none⟩ = some (.int .i64 (y.kid k).n) ∧ w'.cell? ⟨b2, o2 + k * 4 + 2, none⟩ = some (.string (y.kid k).s) ∧ w'.cell? ⟨b2, o2 + k * 4 + 3, none⟩ = some (.slice p2 (y.kid k).len q2) ∧ Below w.heap.size w w')
        (first | exact ⟨c0, c1, c2, c3, d0, d1, d2, d3, Below.drew hbl⟩ | (go_split_ands; exact ⟨kc hb (by assumption), kc hb (by assumption), kc hb (by assumption), kc hb (by assumption), kc hb (by assumption), kc hb (by assumption), kc hb (by assumption), kc hb (by assumption), bT (by assumption) hb⟩) | go_keep)
        (first | (go_at_call 55; refine (HC.out _ _ _ (inK (by repeat (first | with_reducible assumption | with_reducible exact Below.refl _ _ | with_reducible refine bN ?_ _ | with_reducible refine Below.drew ?_ | with_reducible refine bA ?_ _ | with_reducible refine bT ?_ (by assumption))) HN1.out) (inK (by repeat (first | with_reducible assumption | with_reducible exact Below.refl _ _ | with_reducible refine bN ?_ _ | with_reducible refine Below.drew ?_ | with_reducible refine bA ?_ _ | with_reducible refine bT ?_ (by assumption))) HN2.out)).mono ?_; rintro e w3 ⟨rfl, hb⟩))
      all_goals go_split_ands
      all_goals
        have WB : Below w.heap.size w w3 := by assumption
        clear c0 c1 c2 c3 d0 d1 d2 d3
        by_cases hz0 : c = 0
        · subst hz0
          go_wp2
          go_roundw
          case rel =>
            refine ⟨k + 1, by go_num, by omega, fun i hi => ?_, WB⟩
            by_cases e : i = k
            · rw [e]; exact HCV.out
            · exact HU.out i (by omega)
          case measure => simp [intOf]; omega
        · have hv : VT.cmpL x y = c := by rw [← HCV.out]; exact VT.cmpL_at (k := k) HU.out (by omega) (by omega) (by rw [HCV.out]; exact hz0)
          have HV := Lib.hid hv
          have hz1 : (c != 0) = true := by simpa using hz0
          clear hv hz0
          go_wp2
          go_ret
          exact ⟨rint HV.out.symm, WB⟩
    · have hkm : k = y.len := by omega
      subst hkm
      have hv2 : VT.cmpL x y = 1 := by rw [VT.cmpL_zero (HU.out) (by omega), sgnI_gt (by omega)]
      have HV := Lib.hid hv2
      clear hv2
      have he : ¬ x.len < y.len := by omega
      go_wp2
      go_ret
      exact ⟨rint HV.out.symm, hbl⟩

theorem compareV_c (x y : VT)
    (ih : ∀ i, i < x.len → i < y.len → ∀ (s1 s2 : Value) (w : World), VT.In w (x.kid i) s1 → VT.In w (y.kid i) s2 → Calls Tryd.prog 55 #[(x.kid i).val s1, (y.kid i).val s2] w fun e w' => e = .returned (.int .i64 (VT.cmp (x.kid i) (y.kid i))) ∧ Below w.heap.size w w')
    (s1 s2 : Value) (w : World) (h1 : VT.In w x s1) (h2 : VT.In w y s2) :
    Calls Tryd.prog 83 #[s1, s2, .func (.func 55) #[] #[]] w fun e w' => e = .returned (.int .i64 (VT.cmpL x y)) ∧ Below w.heap.size w w' := by
  by_cases h : x.len ≤ y.len
  · exact compareV_le x y h ih s1 s2 w h1 h2
  · exact compareV_gt x y (by omega) ih s1 s2 w h1 h2

set_option maxHeartbeats 4000000 in
theorem orderV_step (x y : VT)
    (ih : ∀ (s1 s2 : Value) (w : World), VT.In w x s1 → VT.In w y s2 → Calls Tryd.prog 83 #[s1, s2, .func (.func 55) #[] #[]] w fun e w' => e = .returned (.int .i64 (VT.cmpL x y)) ∧ Below w.heap.size w w')
    (s1 s2 : Value) (w : World) (h1 : VT.In w x s1) (h2 : VT.In w y s2) :
    Calls Tryd.prog 55 #[x.val s1, y.val s2] w fun e w' => e = .returned (.int .i64 (VT.cmp x y)) ∧ Below w.heap.size w w' := by
  have HI := Lib.hid ih
  have HN1 := Lib.hid h1
  have HN2 := Lib.hid h2
  obtain ⟨p1, q1, rfl⟩ := h1.slice
  obtain ⟨p2, q2, rfl⟩ := h2.slice
  have hv := VT.cmp_eq x y
  have KA := Lib.hid (cmpI_c x.k y.k)
  have KB := Lib.hid (cmpI_c x.n y.n)
  have KC := Lib.hid (cmpS_c x.s y.s)
  have KO := fun b w hx hy hz => Lib.hid (or3_c b (sgnI x.k y.k) (sgnI x.n y.n) (strL x.s.toList y.s.toList) w hx hy hz)
  have HO := Lib.hid KO
  rw [show or3 (sgnI x.k y.k) (sgnI x.n y.n) (strL x.s.toList y.s.toList) = VT.cmpR x y from rfl] at HO
  clear ih h1 h2 KO
  generalize VT.cmpR x y = c at *
  generalize sgnI x.k y.k = ck at *
  generalize sgnI x.n y.n = cn at *
  generalize strL x.s.toList y.s.toList = cs at *
  have HV := Lib.hid hv
  clear hv
  unfold VT.val
  go_enter Tryd.func55, Tryd.ntmps55
  go_wp2_with fail
  go_region_held3 (fun w' => w'.cell? ⟨w.heap.size, 0, none⟩ = some (.int .i64 x.k) ∧ w'.cell? ⟨w.heap.size, 1, none⟩ = some (.int .i64 x.n) ∧ w'.cell? ⟨w.heap.size, 2, none⟩ = some (.string x.s) ∧ w'.cell? ⟨w.heap.size, 3, none⟩ = some (.slice p1 x.len q1) ∧ w'.cell? ⟨w.heap.size + 1, 0, none⟩ = some (.int .i64 y.k) ∧ w'.cell? ⟨w.heap.size + 1, 1, none⟩ = some (.int .i64 y.n) ∧ w'.cell? ⟨w.heap.size + 1, 2, none⟩ = some (.string y.s) ∧ w'.cell? ⟨w.heap.size + 1, 3, none⟩ = some (.slice p2 y.len q2))
    (go_keep)
    (first
      | (go_at_call_of 81 (Value.int .i64 x.k); refine (KA.out _).mono ?_; rintro e w7 ⟨rfl, rfl⟩)
      | (go_at_call_of 81 (Value.int .i64 x.n); refine (KB.out _).mono ?_; rintro e w7 ⟨rfl, rfl⟩)
      | (go_at_call 82; refine (KC.out _).mono ?_; rintro e w7 ⟨rfl, rfl⟩)
      | (go_at_call 80; refine (HO.out _ _ ?hx ?hy ?hz).out.mono ?_; (case hx => go_simp); (case hy => go_simp); (case hz => go_simp); rintro e w7 ⟨rfl, rfl⟩))
  all_goals
    by_cases hz : c = 0
    · have hv2 := HV.out
      rw [if_neg (by simp [hz])] at hv2
      have HV2 := Lib.hid hv2
      subst hz
      clear hv2
      go_wp2_with (go_at_call 83; go_must (refine (HI.out _ _ _ (inK (by repeat (first | with_reducible assumption | with_reducible exact Below.refl _ _ | with_reducible refine bN ?_ _ | with_reducible refine Below.drew ?_ | with_reducible refine bA ?_ _ | with_reducible refine bT ?_ (by assumption))) HN1.out) (inK (by repeat (first | with_reducible assumption | with_reducible exact Below.refl _ _ | with_reducible refine bN ?_ _ | with_reducible refine Below.drew ?_ | with_reducible refine bA ?_ _ | with_reducible refine bT ?_ (by assumption))) HN2.out)).mono ?_); rintro e w3 ⟨rfl, hb⟩)
      go_ret
      exact ⟨rint HV2.out.symm, bT (by repeat (first | with_reducible assumption | with_reducible exact Below.refl _ _ | with_reducible refine bN ?_ _ | with_reducible refine Below.drew ?_ | with_reducible refine bA ?_ _ | with_reducible refine bT ?_ (by assumption))) hb⟩
    · have hv2 := HV.out
      rw [if_pos hz] at hv2
      have HV2 := Lib.hid hv2
      have hz2 : (c != 0) = true := by simpa using hz
      clear hv2 hz
      go_wp2
      go_ret
      exact ⟨rint HV2.out.symm, (by repeat (first | with_reducible assumption | with_reducible exact Below.refl _ _ | with_reducible refine bN ?_ _ | with_reducible refine Below.drew ?_ | with_reducible refine bA ?_ _ | with_reducible refine bT ?_ (by assumption)))⟩

theorem orderV_c : ∀ (x y : VT) (s1 s2 : Value) (w : World), VT.In w x s1 → VT.In w y s2 →
    Calls Tryd.prog 55 #[x.val s1, y.val s2] w fun e w' => e = .returned (.int .i64 (VT.cmp x y)) ∧ Below w.heap.size w w' := by
  intro x
  induction x using VT.ind with
  | h x ih =>
    intro y s1 s2 w h1 h2
    exact orderV_step x y (fun s1 s2 w h1 h2 => compareV_c x y (fun i hi _ s1 s2 w h1 h2 => ih i hi (y.kid i) s1 s2 w h1 h2) s1 s2 w h1 h2) s1 s2 w h1 h2

set_option maxHeartbeats 1000000 in
theorem sameV_cv (x y : VT) (s1 s2 : Value) (w : World) (h1 : VT.In w x s1) (h2 : VT.In w y s2) :
    Calls Tryd.prog 21 #[x.val s1, y.val s2] w fun e w' => e = .returned (.bool (VT.sameB x y)) ∧ Below w.heap.size w w' := by
  have HI := Lib.hid (orderV_c x y s1 s2)
  have HN1 := Lib.hid h1
  have HN2 := Lib.hid h2
  obtain ⟨p1, q1, rfl⟩ := h1.slice
  obtain ⟨p2, q2, rfl⟩ := h2.slice
  have hv : VT.sameB x y = (VT.cmp x y == 0) := by rw [Bool.eq_iff_iff, ← VT.cmp_zero]; simp
  have HV := Lib.hid hv
  clear h1 h2 hv
  generalize VT.cmp x y = c at *
  unfold VT.val at HI ⊢
  go_enter Tryd.func21, Tryd.ntmps21
  go_wp2_with (go_at_call 55; go_must (refine (HI.out _ (inK (bA (bA (Below.refl _ _) _) _) HN1.out) (inK (bA (bA (Below.refl _ _) _) _) HN2.out)).mono ?_); rintro e w3 ⟨rfl, hb⟩)
  go_ret
  exact ⟨rbool HV.out.symm, bT (bA (bA (Below.refl _ _) _) _) hb⟩

/-- What Cmp answers. -/
def VT.cmpB (x y : VT) : Int := if x.okB = true ∧ y.okB = true then VT.cmp x y else 0

set_option maxHeartbeats 1000000 in
theorem cmpV_cv (x y : VT) (s1 s2 : Value) (w : World) (h1 : VT.In w x s1) (h2 : VT.In w y s2) :
    Calls Tryd.prog 19 #[x.val s1, y.val s2] w fun e w' => e = .returned (.int .i64 (VT.cmpB x y)) ∧ Below w.heap.size w w' := by
  have HI := Lib.hid (orderV_c x y s1 s2)
  have k1 := right_cv x s1
  have k2 := right_cv y s2
  have HN1 := Lib.hid h1
  have HN2 := Lib.hid h2
  obtain ⟨p1, q1, rfl⟩ := h1.slice
  obtain ⟨p2, q2, rfl⟩ := h2.slice
  have hv : VT.cmpB x y = if x.okB = true ∧ y.okB = true then VT.cmp x y else 0 := rfl
  have HB := Lib.hid (bA (bA (Below.refl w.heap.size w) (.cells #[.int .i64 x.k, .int .i64 x.n, .string x.s, .slice p1 x.len q1] 35)) (.cells #[.int .i64 y.k, .int .i64 y.n, .string y.s, .slice p2 y.len q2] 35))
  have C1 : VT.Cell4 ((w.alloc (.cells #[.int .i64 x.k, .int .i64 x.n, .string x.s, .slice p1 x.len q1] 35)).alloc (.cells #[.int .i64 y.k, .int .i64 y.n, .string y.s, .slice p2 y.len q2] 35)) w.heap.size 0 x (.slice p1 x.len q1) := ⟨by go_simp, by go_simp, by go_simp, by go_simp⟩
  have C2 : VT.Cell4 ((w.alloc (.cells #[.int .i64 x.k, .int .i64 x.n, .string x.s, .slice p1 x.len q1] 35)).alloc (.cells #[.int .i64 y.k, .int .i64 y.n, .string y.s, .slice p2 y.len q2] 35)) (w.heap.size + 1) 0 y (.slice p2 y.len q2) := ⟨by go_simp, by go_simp, by go_simp, by go_simp⟩
  have D1 := Lib.hid C1
  have D2 := Lib.hid C2
  have HV := Lib.hid hv
  clear h1 h2 hv C1 C2
  generalize VT.cmp x y = c at *
  unfold VT.val at *
  cases ha : x.okB with
  | false =>
    rw [ha] at k1 HV
    have K1 := Lib.hid k1
    clear k1 k2 ha
    go_enter Tryd.func19, Tryd.ntmps19
    go_wp2_with (go_at_call 20; go_must (refine (K1.out _ (inK HB.out HN1.out)).mono ?_); rintro e w3 ⟨rfl, hb⟩)
    go_ret
    exact ⟨rint (by rw [HV.out]; simp), bT HB.out hb⟩
  | true =>
    rw [ha] at k1 HV
    have K1 := Lib.hid k1
    cases hb0 : y.okB with
    | false =>
      rw [hb0] at k2 HV
      have K2 := Lib.hid k2
      clear k1 k2 ha hb0
      go_enter Tryd.func19, Tryd.ntmps19
      go_wp2_with fail
      refine (K1.out _ (inK HB.out HN1.out)).mono ?_
      rintro e w3 ⟨rfl, hb⟩
      obtain ⟨d0, d1, d2, d3⟩ := D2.out.keep hb
      go_wp2_with fail
      refine (K2.out _ (inK (bT HB.out hb) HN2.out)).mono ?_
      rintro e w4 ⟨rfl, hb2⟩
      go_wp2
      go_ret
      exact ⟨rint (by rw [HV.out]; simp), bT (bT HB.out hb) hb2⟩
    | true =>
      rw [hb0] at k2 HV
      have K2 := Lib.hid k2
      clear k1 k2 ha hb0
      go_enter Tryd.func19, Tryd.ntmps19
      go_wp2_with fail
      refine (K1.out _ (inK HB.out HN1.out)).mono ?_
      rintro e w3 ⟨rfl, hb⟩
      have E1 := D1.out.keep hb
      have E2 := D2.out.keep hb
      have E3 := Lib.hid E1
      have E4 := Lib.hid E2
      obtain ⟨d0, d1, d2, d3⟩ := E2
      have WB := Lib.hid (bT HB.out hb)
      clear E1 hb
      go_wp2_with fail
      refine (K2.out _ (inK WB.out HN2.out)).mono ?_
      rintro e w4 ⟨rfl, hb⟩
      obtain ⟨c0, c1, c2, c3⟩ := E3.out.keep hb
      replace d0 := kc hb d0
      replace d1 := kc hb d1
      replace d2 := kc hb d2
      replace d3 := kc hb d3
      have WB2 := Lib.hid (bT WB.out hb)
      clear hb
      go_wp2_with fail
      refine (HI.out _ (inK WB2.out HN1.out) (inK WB2.out HN2.out)).mono ?_
      rintro e w5 ⟨rfl, hb⟩
      go_wp2
      go_ret
      exact ⟨rint (by rw [HV.out]; simp), bT WB2.out hb⟩
end Go.Proofs.YtjkmgmcgbpnjhaaDoor
