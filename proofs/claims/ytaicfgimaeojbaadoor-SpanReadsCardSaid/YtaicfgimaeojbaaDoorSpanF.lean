/-
  The contracts of package span over this seat's translation, sixth part: Make, Whole. No condition but the bounds that each theorem states.
-/
import Derived.Test.YtaicfgimaeojbaaDoorSpanE
namespace Go.Proofs.YtaicfgimaeojbaaDoor
open Go.RowKit
attribute [local go_sem ↓] Go.wp_at_zero Go.wp_at_succ

theorem belowS {a w : World} (h : Below a.heap.size a w) {b o : Nat} {r} (hp : a.heap.size ≤ b) (u : Value) : Below a.heap.size a (w.setCell ⟨b, o, r⟩ u) := h.setCell hp u

/-- What Make answers: the time and the error's number. -/
def makeS (n d : Int) : Int × Int × Int :=
  if d = 0 then (0, 0, 3) else if n < 0 ∧ 0 < d ∨ 0 < n ∧ d < 0 then (0, 0, 4) else fitT 0 ((n.natAbs : Int) / (Int.gcd n.natAbs d.natAbs : Int)) 0 ((d.natAbs : Int) / (Int.gcd n.natAbs d.natAbs : Int))

theorem fit_w (nl dl : Int) (h1 : 0 ≤ nl) (h3 : 0 ≤ dl) (w : World) :
    Calls Tryd.prog 29 #[.agg #[.int .u64 0, .int .u64 nl], .agg #[.int .u64 0, .int .u64 dl]] w fun e w' => e = .returned (.tuple #[.agg #[.int .i64 (fitT 0 nl 0 dl).1, .int .i64 (fitT 0 nl 0 dl).2.1], .int .i64 (fitT 0 nl 0 dl).2.2]) ∧ Below w.heap.size w w' :=
  fit_c 0 nl 0 dl (by omega) h1 (by omega) h3 w

set_option maxHeartbeats 1000000 in
theorem make_zero (n : Int) (w : World) :
    Calls Tryd.prog 19 #[.int .i64 n, .int .i64 0] w fun e w' => e = .returned (.tuple #[.agg #[.int .i64 0, .int .i64 0], .int .i64 3]) ∧ Below w.heap.size w w' := by
  go_enter Tryd.func19, Tryd.ntmps19
  go_wp2
  exact bodyPost_ret (v := .tuple #[.agg #[.int .i64 0, .int .i64 0], .int .i64 3]) (by simp [results, Tryd.results19, go_sem]) rfl ⟨rfl, (by repeat (first | exact Below.refl _ _ | refine belowN ?_ _ | refine Below.drew ?_ | refine belowA ?_ _ | refine belowT ?_ (by assumption)))⟩

set_option maxHeartbeats 1000000 in
theorem make_below (n d : Int) (h : n < 0 ∧ 0 < d ∨ 0 < n ∧ d < 0) (w : World) :
    Calls Tryd.prog 19 #[.int .i64 n, .int .i64 d] w fun e w' => e = .returned (.tuple #[.agg #[.int .i64 0, .int .i64 0], .int .i64 4]) ∧ Below w.heap.size w w' := by
  have hd : (d == 0) = false := by simp; omega
  rcases h with ⟨a, b⟩ | ⟨a, b⟩
  · go_enter Tryd.func19, Tryd.ntmps19
    go_wp2
    exact bodyPost_ret (v := .tuple #[.agg #[.int .i64 0, .int .i64 0], .int .i64 4]) (by simp [results, Tryd.results19, go_sem]) rfl ⟨rfl, (by repeat (first | exact Below.refl _ _ | refine belowN ?_ _ | refine Below.drew ?_ | refine belowA ?_ _ | refine belowT ?_ (by assumption)))⟩
  · have a' : ¬ n < 0 := by omega
    go_enter Tryd.func19, Tryd.ntmps19
    go_wp2
    exact bodyPost_ret (v := .tuple #[.agg #[.int .i64 0, .int .i64 0], .int .i64 4]) (by simp [results, Tryd.results19, go_sem]) rfl ⟨rfl, (by repeat (first | exact Below.refl _ _ | refine belowN ?_ _ | refine Below.drew ?_ | refine belowA ?_ _ | refine belowT ?_ (by assumption)))⟩

theorem quo_w (x g : Int) (hx : 0 ≤ x) (hx2 : x ≤ 18446744073709551615) (hg : 1 ≤ g) : 0 ≤ x / g ∧ x / g ≤ 18446744073709551615 := by
  refine ⟨Int.ediv_nonneg hx (by omega), ?_⟩
  have := Int.ediv_le_self (a := x) g hx
  omega

theorem quo_e (x g : Int) (hx : 0 ≤ x) (hx2 : x ≤ 18446744073709551615) (hg : 1 ≤ g) : IntKind.u64.wrap (x.tdiv g) = x / g := by
  have h := quo_w x g hx hx2 hg
  rw [Int.tdiv_eq_ediv_of_nonneg hx, IntKind.wrap_u64]
  omega

set_option maxHeartbeats 2000000 in
theorem make_pos (n d x y g : Int) (hn : In64 n) (hd : In64 d) (hx : (n.natAbs : Int) = x) (hy : (d.natAbs : Int) = y) (hg : (Int.gcd x y : Int) = g) (h1 : ¬ d = 0) (h2 : ¬ (n < 0 ∧ 0 < d)) (h3 : ¬ (0 < n ∧ d < 0)) (w : World) :
    Calls Tryd.prog 19 #[.int .i64 n, .int .i64 d] w fun e w' => e = .returned (.tuple #[.agg #[.int .i64 (fitT 0 (x / g) 0 (y / g)).1, .int .i64 (fitT 0 (x / g) 0 (y / g)).2.1], .int .i64 (fitT 0 (x / g) 0 (y / g)).2.2]) ∧ Below w.heap.size w w' := by
  have hdz : (d == 0) = false := by simpa using h1
  have gp : 1 ≤ g := by
    have : 0 < Int.gcd x y := Int.gcd_pos_of_ne_zero_right _ (by omega)
    omega
  have x0 : 0 ≤ x := by omega
  have x1 : x ≤ 18446744073709551615 := by unfold In64 at hn; omega
  have y0 : 0 ≤ y := by omega
  have y1 : y ≤ 18446744073709551615 := by unfold In64 at hd; omega
  have qx := quo_w x g x0 x1 gp
  have qy := quo_w y g y0 y1 gp
  obtain ⟨qx0, qx1⟩ := qx
  obtain ⟨qy0, qy1⟩ := qy
  have Hx := Lib.hid hx
  have Hy := Lib.hid hy
  have Hg := Lib.hid hg
  clear hx hy hg h1
  have key : ∀ w1 : World, Calls Tryd.prog 28 #[.int .i64 n] w1 fun e w' => e = .returned (.int .u64 x) ∧ w1 = w' := fun w1 => by rw [← Hx.out]; exact size_c n hn w1
  have key2 : ∀ w1 : World, Calls Tryd.prog 28 #[.int .i64 d] w1 fun e w' => e = .returned (.int .u64 y) ∧ w1 = w' := fun w1 => by rw [← Hy.out]; exact size_c d hd w1
  have key3 : ∀ w1 : World, Calls Tryd.prog 23 #[.int .u64 x, .int .u64 y] w1 fun e w' => e = .returned (.int .u64 g) ∧ Below w1.heap.size w1 w' := fun w1 => by rw [← Hg.out]; exact gcd_c x y x0 x1 y0 y1 w1
  have K := Lib.hid key
  have K2 := Lib.hid key2
  have K3 := Lib.hid key3
  clear key key2 key3 hn hd Hx Hy Hg
  have g0 : (g == 0) = false := by simp; omega
  by_cases hn : n < 0
  · have hd1 : ¬ 0 < d := fun h => h2 ⟨hn, h⟩
    have hd2 : d < 0 := by simp at hdz; omega
    clear h2 h3
    go_enter Tryd.func19, Tryd.ntmps19
    go_wp2_with fail
    refine (K.out _).mono ?_
    rintro e w1 ⟨rfl, rfl⟩
    go_wp2_with fail
    refine (K2.out _).mono ?_
    rintro e w1 ⟨rfl, rfl⟩
    go_wp2_with fail
    refine (K3.out _).mono ?_
    rintro e w1 ⟨rfl, hb1⟩
    have c0 := keepc hb1 (p := ⟨w.heap.size, 0, none⟩) (v := .int .i64 0) (by go_simp)
    have c1 := keepc hb1 (p := ⟨w.heap.size, 1, none⟩) (v := .int .i64 0) (by go_simp)
    have f0 : w1.frozen? ⟨w.heap.size, 0, none⟩ = false := keepf hb1 (p := ⟨w.heap.size, 0, none⟩) (v := .int .i64 0) (by go_simp) (by go_simp)
    have f1 : w1.frozen? ⟨w.heap.size, 1, none⟩ = false := keepf hb1 (p := ⟨w.heap.size, 1, none⟩) (v := .int .i64 0) (by go_simp) (by go_simp)
    have hw := belowT (belowA (Below.refl _ w) _) hb1
    clear hb1
    have qe := quo_e x g x0 x1 gp
    have re := quo_e y g y0 y1 gp
    go_wp2_with fail
    go_region_with (first | (go_at_call 29; refine (fit_w _ _ (by assumption) (by assumption) _).mono ?_; rintro e w3 ⟨rfl, hb⟩; have c2 := keepc hb (p := ⟨w.heap.size, 0, none⟩) (v := .int .i64 0) (by go_simp); have c3 := keepc hb (p := ⟨w.heap.size, 1, none⟩) (v := .int .i64 0) (by go_simp); have f2 : w3.frozen? ⟨w.heap.size, 0, none⟩ = false := keepf hb (p := ⟨w.heap.size, 0, none⟩) (v := .int .i64 0) (by go_simp) (by go_simp); have f3 : w3.frozen? ⟨w.heap.size, 1, none⟩ = false := keepf hb (p := ⟨w.heap.size, 1, none⟩) (v := .int .i64 0) (by go_simp) (by go_simp)))
    clear qe re
    all_goals go_wp2
    all_goals exact bodyPost_ret (v := .tuple #[.agg #[.int .i64 (fitT 0 (x / g) 0 (y / g)).1, .int .i64 (fitT 0 (x / g) 0 (y / g)).2.1], .int .i64 (fitT 0 (x / g) 0 (y / g)).2.2]) (by simp [results, Tryd.results19, go_sem, c2, c3]) rfl ⟨rfl, (by repeat (first | exact Below.refl _ _ | refine belowN ?_ _ | refine Below.drew ?_ | refine belowA ?_ _ | refine belowS ?_ (Nat.le_refl _) _ | refine belowT ?_ (by assumption)))⟩
  · by_cases hp : 0 < n
    · have hd1 : ¬ d < 0 := fun h => h3 ⟨hp, h⟩
      clear h2 h3
      go_enter Tryd.func19, Tryd.ntmps19
      go_wp2_with fail
      refine (K.out _).mono ?_
      rintro e w1 ⟨rfl, rfl⟩
      go_wp2_with fail
      refine (K2.out _).mono ?_
      rintro e w1 ⟨rfl, rfl⟩
      go_wp2_with fail
      refine (K3.out _).mono ?_
      rintro e w1 ⟨rfl, hb1⟩
      have c0 := keepc hb1 (p := ⟨w.heap.size, 0, none⟩) (v := .int .i64 0) (by go_simp)
      have c1 := keepc hb1 (p := ⟨w.heap.size, 1, none⟩) (v := .int .i64 0) (by go_simp)
      have f0 : w1.frozen? ⟨w.heap.size, 0, none⟩ = false := keepf hb1 (p := ⟨w.heap.size, 0, none⟩) (v := .int .i64 0) (by go_simp) (by go_simp)
      have f1 : w1.frozen? ⟨w.heap.size, 1, none⟩ = false := keepf hb1 (p := ⟨w.heap.size, 1, none⟩) (v := .int .i64 0) (by go_simp) (by go_simp)
      have hw := belowT (belowA (Below.refl _ w) _) hb1
      clear hb1
      have qe := quo_e x g x0 x1 gp
      have re := quo_e y g y0 y1 gp
      go_wp2_with fail
      go_region_with (first | (go_at_call 29; refine (fit_w _ _ (by assumption) (by assumption) _).mono ?_; rintro e w3 ⟨rfl, hb⟩; have c2 := keepc hb (p := ⟨w.heap.size, 0, none⟩) (v := .int .i64 0) (by go_simp); have c3 := keepc hb (p := ⟨w.heap.size, 1, none⟩) (v := .int .i64 0) (by go_simp); have f2 : w3.frozen? ⟨w.heap.size, 0, none⟩ = false := keepf hb (p := ⟨w.heap.size, 0, none⟩) (v := .int .i64 0) (by go_simp) (by go_simp); have f3 : w3.frozen? ⟨w.heap.size, 1, none⟩ = false := keepf hb (p := ⟨w.heap.size, 1, none⟩) (v := .int .i64 0) (by go_simp) (by go_simp)))
      clear qe re
      all_goals go_wp2
      all_goals exact bodyPost_ret (v := .tuple #[.agg #[.int .i64 (fitT 0 (x / g) 0 (y / g)).1, .int .i64 (fitT 0 (x / g) 0 (y / g)).2.1], .int .i64 (fitT 0 (x / g) 0 (y / g)).2.2]) (by simp [results, Tryd.results19, go_sem, c2, c3]) rfl ⟨rfl, (by repeat (first | exact Below.refl _ _ | refine belowN ?_ _ | refine Below.drew ?_ | refine belowA ?_ _ | refine belowS ?_ (Nat.le_refl _) _ | refine belowT ?_ (by assumption)))⟩
    · have hz : n = 0 := by omega
      subst hz
      clear h2 h3
      go_enter Tryd.func19, Tryd.ntmps19
      go_wp2_with fail
      refine (K.out _).mono ?_
      rintro e w1 ⟨rfl, rfl⟩
      go_wp2_with fail
      refine (K2.out _).mono ?_
      rintro e w1 ⟨rfl, rfl⟩
      go_wp2_with fail
      refine (K3.out _).mono ?_
      rintro e w1 ⟨rfl, hb1⟩
      have c0 := keepc hb1 (p := ⟨w.heap.size, 0, none⟩) (v := .int .i64 0) (by go_simp)
      have c1 := keepc hb1 (p := ⟨w.heap.size, 1, none⟩) (v := .int .i64 0) (by go_simp)
      have f0 : w1.frozen? ⟨w.heap.size, 0, none⟩ = false := keepf hb1 (p := ⟨w.heap.size, 0, none⟩) (v := .int .i64 0) (by go_simp) (by go_simp)
      have f1 : w1.frozen? ⟨w.heap.size, 1, none⟩ = false := keepf hb1 (p := ⟨w.heap.size, 1, none⟩) (v := .int .i64 0) (by go_simp) (by go_simp)
      have hw := belowT (belowA (Below.refl _ w) _) hb1
      clear hb1
      have qe := quo_e x g x0 x1 gp
      have re := quo_e y g y0 y1 gp
      go_wp2_with fail
      go_region_with (first | (go_at_call 29; refine (fit_w _ _ (by assumption) (by assumption) _).mono ?_; rintro e w3 ⟨rfl, hb⟩; have c2 := keepc hb (p := ⟨w.heap.size, 0, none⟩) (v := .int .i64 0) (by go_simp); have c3 := keepc hb (p := ⟨w.heap.size, 1, none⟩) (v := .int .i64 0) (by go_simp); have f2 : w3.frozen? ⟨w.heap.size, 0, none⟩ = false := keepf hb (p := ⟨w.heap.size, 0, none⟩) (v := .int .i64 0) (by go_simp) (by go_simp); have f3 : w3.frozen? ⟨w.heap.size, 1, none⟩ = false := keepf hb (p := ⟨w.heap.size, 1, none⟩) (v := .int .i64 0) (by go_simp) (by go_simp)))
      clear qe re
      all_goals go_wp2
      all_goals exact bodyPost_ret (v := .tuple #[.agg #[.int .i64 (fitT 0 (x / g) 0 (y / g)).1, .int .i64 (fitT 0 (x / g) 0 (y / g)).2.1], .int .i64 (fitT 0 (x / g) 0 (y / g)).2.2]) (by simp [results, Tryd.results19, go_sem, c2, c3]) rfl ⟨rfl, (by repeat (first | exact Below.refl _ _ | refine belowN ?_ _ | refine Below.drew ?_ | refine belowA ?_ _ | refine belowS ?_ (Nat.le_refl _) _ | refine belowT ?_ (by assumption)))⟩

theorem make_c (n d : Int) (hn : In64 n) (hd : In64 d) (w : World) :
    Calls Tryd.prog 19 #[.int .i64 n, .int .i64 d] w fun e w' => e = .returned (.tuple #[.agg #[.int .i64 (makeS n d).1, .int .i64 (makeS n d).2.1], .int .i64 (makeS n d).2.2]) ∧ Below w.heap.size w w' := by
  by_cases h1 : d = 0
  · have e : makeS n d = (0, 0, 3) := by unfold makeS; rw [if_pos h1]
    rw [e, h1]
    exact make_zero n w
  · by_cases h2 : n < 0 ∧ 0 < d ∨ 0 < n ∧ d < 0
    · have e : makeS n d = (0, 0, 4) := by unfold makeS; rw [if_neg h1, if_pos h2]
      rw [e]
      exact make_below n d h2 w
    · have e : makeS n d = fitT 0 ((n.natAbs : Int) / (Int.gcd n.natAbs d.natAbs : Int)) 0 ((d.natAbs : Int) / (Int.gcd n.natAbs d.natAbs : Int)) := by unfold makeS; rw [if_neg h1, if_neg h2]
      rw [e]
      exact make_pos n d _ _ _ hn hd rfl rfl rfl h1 (fun h => h2 (.inl h)) (fun h => h2 (.inr h)) w

end Go.Proofs.YtaicfgimaeojbaaDoor
