/-
  The contracts of package span over this seat's translation: together at plus and minus, as sums and differences of fractions; Add, Sub. No condition but the bounds that each theorem states.
-/
import Derived.Test.YthdadpafankbfaaDoorSpanK
import Derived.Test.YthdadpafankbfaaDoorSpanM
namespace Go.Proofs.YthdadpafankbfaaDoor
open Go.RowKit
attribute [local go_sem ↓] Go.wp_at_zero Go.wp_at_succ

/-- What a sum comes to: a time, or too large. -/
def ofRat (q : Rat) : Int × Int × Int := if 9223372036854775807 < q.num ∨ 9223372036854775807 < (q.den : Int) then (0, 0, 2) else (q.num, (q.den : Int), 0)

theorem fitT_nat (n z : Nat) : fitT ((n : Int) / 18446744073709551616) ((n : Int) % 18446744073709551616) ((z : Int) / 18446744073709551616) ((z : Int) % 18446744073709551616) = if 9223372036854775807 < (n : Int) ∨ 9223372036854775807 < (z : Int) then (0, 0, 2) else ((n : Int), (z : Int), 0) := by
  unfold fitT
  by_cases h : 9223372036854775807 < (n : Int) ∨ 9223372036854775807 < (z : Int)
  · rw [if_pos h, if_pos (by omega)]
  · rw [if_neg h, if_neg (by omega)]
    have e1 : (n : Int) % 18446744073709551616 = n := by omega
    have e2 : (z : Int) % 18446744073709551616 = z := by omega
    rw [e1, e2]

set_option maxHeartbeats 1000000 in
theorem tog_plus (an ad bn bd : Nat) (a1 : an ≤ 9223372036854775807) (a2 : ad ≤ 9223372036854775807) (b1 : bn ≤ 9223372036854775807) (b2 : bd ≤ 9223372036854775807) (ha : Nat.gcd an ad = 1) (hb : Nat.gcd bn bd = 1) (h1 : 0 < ad) (h2 : 0 < bd) (w : World) :
    Calls Tryd.prog 34 #[.agg #[.int .i64 (an : Int), .int .i64 (ad : Int)], .agg #[.int .i64 (bn : Int), .int .i64 (bd : Int)], .func (.func 35) #[] #[]] w fun e w' => e = .returned (timeV (ofRat (M.qOf an ad + M.qOf bn bd))) ∧ Below w.heap.size w w' := by
  have hc1 : 1 ≤ Nat.gcd ad bd := Nat.gcd_pos_of_pos_left _ h1
  have hc2 : Nat.gcd ad bd ≤ ad := Nat.gcd_le_left _ h1
  have hl : ad / Nat.gcd ad bd ≤ ad := Nat.div_le_self _ _
  have hr : bd / Nat.gcd ad bd ≤ bd := Nat.div_le_self _ _
  obtain ⟨T, hT⟩ : ∃ T, T = an * (bd / Nat.gcd ad bd) + bn * (ad / Nat.gcd ad bd) := ⟨_, rfl⟩
  have hsq := M.sumQ an ad bn bd T ha hb h1 h2 hT
  have hg1 : 1 ≤ M.tg ad bd T := Nat.gcd_pos_of_pos_left _ hc1
  have hg2 : M.tg ad bd T ≤ Nat.gcd ad bd := Nat.gcd_le_left _ hc1
  have hgq : Nat.gcd (Nat.gcd ad bd) (T % Nat.gcd ad bd) = M.tg ad bd T := rfl
  have hx : an * (bd / Nat.gcd ad bd) ≤ 85070591730234615847396907784232501249 := Nat.le_trans (Nat.mul_le_mul a1 (show bd / Nat.gcd ad bd ≤ 9223372036854775807 by omega)) (by decide)
  have hy : bn * (ad / Nat.gcd ad bd) ≤ 85070591730234615847396907784232501249 := Nat.le_trans (Nat.mul_le_mul b1 (show ad / Nat.gcd ad bd ≤ 9223372036854775807 by omega)) (by decide)
  generalize hcq : Nat.gcd ad bd = c at *
  generalize hgg : M.tg ad bd T = g at *
  generalize hlq : ad / c = l at *
  generalize hrq : bd / c = r at *
  generalize hxq : an * r = x at *
  generalize hyq : bn * l = y at *
  have hrest : T % c < c := Nat.mod_lt _ hc1
  have hv : bd / g ≤ bd := Nat.div_le_self _ _
  have hn : T / g ≤ T := Nat.div_le_self _ _
  generalize hrs : T % c = rest at *
  generalize hvq : bd / g = v at *
  generalize hnq : T / g = n at *
  have e := together_plus an ad bn bd c l r x y T rest g n v (by omega) (by omega) (by omega) (by omega)
    (fun w => by have := gcd_c ad bd (by omega) (by omega) (by omega) (by omega) w; rwa [Int.gcd_natCast_natCast, hcq] at this) (by omega)
    (by rw [quo_e _ _ (by omega) (by omega) (by omega), ← hlq]; exact (Int.natCast_ediv _ _).symm) (by rw [quo_e _ _ (by omega) (by omega) (by omega), ← hrq]; exact (Int.natCast_ediv _ _).symm)
    (fun w => by rw [wrap_in _ (by omega) (by omega)]; have := times_c an r (by omega) (by omega) (by omega) (by omega) w; rwa [mulN, hxq] at this)
    (fun w => by rw [wrap_in _ (by omega) (by omega)]; have := times_c bn l (by omega) (by omega) (by omega) (by omega) w; rwa [mulN, hyq] at this)
    (fun w => by have := plus_m x y (by omega) (by omega) (by omega) w; rwa [addN, ← hT] at this)
    (fun w => by have := divide_m T c (by omega) (by omega) (by omega) (by omega) w; rwa [← Int.natCast_emod, hrs] at this)
    (fun w => by have := gcd_c c rest (by omega) (by omega) (by omega) (by omega) w; rwa [Int.gcd_natCast_natCast, hgq] at this) (by omega)
    (fun w => by have := divide_m T g (by omega) (by omega) (by omega) (by omega) w; rwa [← Int.natCast_ediv, hnq] at this)
    (by rw [quo_e _ _ (by omega) (by omega) (by omega), ← hvq]; exact (Int.natCast_ediv _ _).symm)
    (l * v : Nat)
    (fun w => by have := times_c l v (by omega) (by omega) (by omega) (by omega) w; rwa [mulN] at this)
    _ _ _ (fun w => fit_c _ _ _ _ (by omega) (by omega) (by omega) (by omega) w) w
  rw [fitT_nat] at e
  have eo : ofRat (M.qOf an ad + M.qOf bn bd) = if 9223372036854775807 < (n : Int) ∨ 9223372036854775807 < ((l * v : Nat) : Int) then (0, 0, 2) else ((n : Int), ((l * v : Nat) : Int), 0) := by
    unfold ofRat
    rw [hsq.1, hsq.2]
  rw [eo]
  exact e

set_option maxHeartbeats 1000000 in
theorem tog_minus (an ad bn bd : Nat) (a1 : an ≤ 9223372036854775807) (a2 : ad ≤ 9223372036854775807) (b1 : bn ≤ 9223372036854775807) (b2 : bd ≤ 9223372036854775807) (ha : Nat.gcd an ad = 1) (hb : Nat.gcd bn bd = 1) (h1 : 0 < ad) (h2 : 0 < bd) (hle : bn * ad ≤ an * bd) (w : World) :
    Calls Tryd.prog 34 #[.agg #[.int .i64 (an : Int), .int .i64 (ad : Int)], .agg #[.int .i64 (bn : Int), .int .i64 (bd : Int)], .func (.func 36) #[] #[]] w fun e w' => e = .returned (timeV (ofRat (M.qOf an ad - M.qOf bn bd))) ∧ Below w.heap.size w w' := by
  have hc1 : 1 ≤ Nat.gcd ad bd := Nat.gcd_pos_of_pos_left _ h1
  have hc2 : Nat.gcd ad bd ≤ ad := Nat.gcd_le_left _ h1
  have hl : ad / Nat.gcd ad bd ≤ ad := Nat.div_le_self _ _
  have hr : bd / Nat.gcd ad bd ≤ bd := Nat.div_le_self _ _
  have hle2 : bn * (ad / Nat.gcd ad bd) ≤ an * (bd / Nat.gcd ad bd) := by
    have el : Nat.gcd ad bd * (ad / Nat.gcd ad bd) = ad := Nat.mul_div_cancel' (Nat.gcd_dvd_left _ _)
    have er : Nat.gcd ad bd * (bd / Nat.gcd ad bd) = bd := Nat.mul_div_cancel' (Nat.gcd_dvd_right _ _)
    refine Nat.le_of_mul_le_mul_left (?_ : Nat.gcd ad bd * _ ≤ Nat.gcd ad bd * _) hc1
    rw [Nat.mul_left_comm _ bn, el, Nat.mul_left_comm _ an, er]
    exact hle
  obtain ⟨T, hT⟩ : ∃ T, T + bn * (ad / Nat.gcd ad bd) = an * (bd / Nat.gcd ad bd) := ⟨_, Nat.sub_add_cancel hle2⟩
  have hsq := M.difQ an ad bn bd T ha hb h1 h2 hT
  have hg1 : 1 ≤ M.tg ad bd T := Nat.gcd_pos_of_pos_left _ hc1
  have hg2 : M.tg ad bd T ≤ Nat.gcd ad bd := Nat.gcd_le_left _ hc1
  have hgq : Nat.gcd (Nat.gcd ad bd) (T % Nat.gcd ad bd) = M.tg ad bd T := rfl
  have hx : an * (bd / Nat.gcd ad bd) ≤ 85070591730234615847396907784232501249 := Nat.le_trans (Nat.mul_le_mul a1 (show bd / Nat.gcd ad bd ≤ 9223372036854775807 by omega)) (by decide)
  have hy : bn * (ad / Nat.gcd ad bd) ≤ 85070591730234615847396907784232501249 := Nat.le_trans (Nat.mul_le_mul b1 (show ad / Nat.gcd ad bd ≤ 9223372036854775807 by omega)) (by decide)
  generalize hcq : Nat.gcd ad bd = c at *
  generalize hgg : M.tg ad bd T = g at *
  generalize hlq : ad / c = l at *
  generalize hrq : bd / c = r at *
  generalize hxq : an * r = x at *
  generalize hyq : bn * l = y at *
  have hrest : T % c < c := Nat.mod_lt _ hc1
  have hv : bd / g ≤ bd := Nat.div_le_self _ _
  have hn : T / g ≤ T := Nat.div_le_self _ _
  generalize hrs : T % c = rest at *
  generalize hvq : bd / g = v at *
  generalize hnq : T / g = n at *
  have e := together_minus an ad bn bd c l r x y T rest g n v (by omega) (by omega) (by omega) (by omega)
    (fun w => by have := gcd_c ad bd (by omega) (by omega) (by omega) (by omega) w; rwa [Int.gcd_natCast_natCast, hcq] at this) (by omega)
    (by rw [quo_e _ _ (by omega) (by omega) (by omega), ← hlq]; exact (Int.natCast_ediv _ _).symm) (by rw [quo_e _ _ (by omega) (by omega) (by omega), ← hrq]; exact (Int.natCast_ediv _ _).symm)
    (fun w => by rw [wrap_in _ (by omega) (by omega)]; have := times_c an r (by omega) (by omega) (by omega) (by omega) w; rwa [mulN, hxq] at this)
    (fun w => by rw [wrap_in _ (by omega) (by omega)]; have := times_c bn l (by omega) (by omega) (by omega) (by omega) w; rwa [mulN, hyq] at this)
    (fun w => by have := minus_m x y (by omega) (by omega) (by omega) w; rwa [show (x : Int) - y = T by omega] at this)
    (fun w => by have := divide_m T c (by omega) (by omega) (by omega) (by omega) w; rwa [← Int.natCast_emod, hrs] at this)
    (fun w => by have := gcd_c c rest (by omega) (by omega) (by omega) (by omega) w; rwa [Int.gcd_natCast_natCast, hgq] at this) (by omega)
    (fun w => by have := divide_m T g (by omega) (by omega) (by omega) (by omega) w; rwa [← Int.natCast_ediv, hnq] at this)
    (by rw [quo_e _ _ (by omega) (by omega) (by omega), ← hvq]; exact (Int.natCast_ediv _ _).symm)
    (l * v : Nat)
    (fun w => by have := times_c l v (by omega) (by omega) (by omega) (by omega) w; rwa [mulN] at this)
    _ _ _ (fun w => fit_c _ _ _ _ (by omega) (by omega) (by omega) (by omega) w) w
  rw [fitT_nat] at e
  have eo : ofRat (M.qOf an ad - M.qOf bn bd) = if 9223372036854775807 < (n : Int) ∨ 9223372036854775807 < ((l * v : Nat) : Int) then (0, 0, 2) else ((n : Int), ((l * v : Nat) : Int), 0) := by
    unfold ofRat
    rw [hsq.1, hsq.2]
  rw [eo]
  exact e
end Go.Proofs.YthdadpafankbfaaDoor
