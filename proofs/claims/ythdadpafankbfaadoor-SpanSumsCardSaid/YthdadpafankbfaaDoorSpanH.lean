/-
  The contracts of package span over this seat's translation, eighth part: plus, minus. No condition but the bounds that each theorem states.
-/
import Derived.Test.YthdadpafankbfaaDoorSpanF
namespace Go.Proofs.YthdadpafankbfaaDoor
open Go.RowKit
attribute [local go_sem ↓] Go.wp_at_zero Go.wp_at_succ

theorem wrap_up (x : Int) (h0 : 18446744073709551616 ≤ x) (h1 : x < 36893488147419103232) : IntKind.u64.wrap x = x - 18446744073709551616 := by rw [IntKind.wrap_u64]; omega
theorem wrap_dn (x : Int) (h0 : x < 0) (h1 : -18446744073709551616 ≤ x) : IntKind.u64.wrap x = x + 18446744073709551616 := by rw [IntKind.wrap_u64]; omega

set_option maxHeartbeats 1000000 in
theorem plus_lo (ah al bh bl : Int) (h1 : 0 ≤ ah) (h2 : 0 ≤ al) (h3 : 0 ≤ bh) (h4 : 0 ≤ bl) (h5 : ah + bh < 18446744073709551615) (h6 : al + bl < 18446744073709551616) (w : World) :
    Calls Tryd.prog 35 #[.agg #[.int .u64 ah, .int .u64 al], .agg #[.int .u64 bh, .int .u64 bl]] w fun e w' => e = .returned (.agg #[.int .u64 (ah + bh), .int .u64 (al + bl)]) ∧ Below w.heap.size w w' := by
  go_enter Tryd.func35, Tryd.ntmps35
  go_wp2
  exact bodyPost_ret (v := .agg #[.int .u64 (ah + bh), .int .u64 (al + bl)]) (by simp [results, Tryd.results35, go_sem]) rfl ⟨rfl, (by repeat (first | exact Below.refl _ _ | refine belowN ?_ _ | refine Below.drew ?_ | refine belowA ?_ _ | refine belowS ?_ (Nat.le_refl _) _ | refine belowT ?_ (by assumption)))⟩

set_option maxHeartbeats 1000000 in
theorem plus_hi (ah al bh bl s : Int) (h1 : 0 ≤ ah) (h2 : 0 ≤ al) (h2' : al ≤ 18446744073709551615) (h3 : 0 ≤ bh) (h4 : 0 ≤ bl) (h4' : bl ≤ 18446744073709551615) (h5 : ah + bh < 18446744073709551615) (h6 : 18446744073709551616 ≤ al + bl) (hs : IntKind.u64.wrap (al + bl) = s) (w : World) :
    Calls Tryd.prog 35 #[.agg #[.int .u64 ah, .int .u64 al], .agg #[.int .u64 bh, .int .u64 bl]] w fun e w' => e = .returned (.agg #[.int .u64 (ah + bh + 1), .int .u64 s]) ∧ Below w.heap.size w w' := by
  have hlt : s < al := by rw [← hs, wrap_up _ h6 (by omega)]; omega
  clear h2' h4'
  go_enter Tryd.func35, Tryd.ntmps35
  go_wp2
  exact bodyPost_ret (v := .agg #[.int .u64 (ah + bh + 1), .int .u64 s]) (by simp [results, Tryd.results35, go_sem]) rfl ⟨rfl, (by repeat (first | exact Below.refl _ _ | refine belowN ?_ _ | refine Below.drew ?_ | refine belowA ?_ _ | refine belowS ?_ (Nat.le_refl _) _ | refine belowT ?_ (by assumption)))⟩

theorem plus_m (p q : Int) (hp : 0 ≤ p) (hq : 0 ≤ q) (h : p + q < 170141183460469231731687303715884105728) (w : World) :
    Calls Tryd.prog 35 #[.agg #[.int .u64 (p / 18446744073709551616), .int .u64 (p % 18446744073709551616)], .agg #[.int .u64 (q / 18446744073709551616), .int .u64 (q % 18446744073709551616)]] w fun e w' => e = .returned (.agg #[.int .u64 ((p + q) / 18446744073709551616), .int .u64 ((p + q) % 18446744073709551616)]) ∧ Below w.heap.size w w' := by
  by_cases hc : p % 18446744073709551616 + q % 18446744073709551616 < 18446744073709551616
  · have e1 : (p + q) / 18446744073709551616 = p / 18446744073709551616 + q / 18446744073709551616 := by omega
    have e2 : (p + q) % 18446744073709551616 = p % 18446744073709551616 + q % 18446744073709551616 := by omega
    rw [e1, e2]
    exact plus_lo _ _ _ _ (by omega) (by omega) (by omega) (by omega) (by omega) hc w
  · have e1 : (p + q) / 18446744073709551616 = p / 18446744073709551616 + q / 18446744073709551616 + 1 := by omega
    have e2 : (p + q) % 18446744073709551616 = p % 18446744073709551616 + q % 18446744073709551616 - 18446744073709551616 := by omega
    rw [e1, e2]
    exact plus_hi _ _ _ _ _ (by omega) (by omega) (by omega) (by omega) (by omega) (by omega) (by omega) (by omega) (wrap_up _ (by omega) (by omega)) w

set_option maxHeartbeats 1000000 in
theorem minus_lo (ah al bh bl : Int) (h1 : ah ≤ 18446744073709551615) (h2 : al ≤ 18446744073709551615) (h3 : 0 ≤ bh) (h4 : 0 ≤ bl) (h5 : bh ≤ ah) (h6 : bl ≤ al) (w : World) :
    Calls Tryd.prog 36 #[.agg #[.int .u64 ah, .int .u64 al], .agg #[.int .u64 bh, .int .u64 bl]] w fun e w' => e = .returned (.agg #[.int .u64 (ah - bh), .int .u64 (al - bl)]) ∧ Below w.heap.size w w' := by
  have h7 : ¬ al < bl := by omega
  go_enter Tryd.func36, Tryd.ntmps36
  go_wp2
  exact bodyPost_ret (v := .agg #[.int .u64 (ah - bh), .int .u64 (al - bl)]) (by simp [results, Tryd.results36, go_sem]) rfl ⟨rfl, (by repeat (first | exact Below.refl _ _ | refine belowN ?_ _ | refine Below.drew ?_ | refine belowA ?_ _ | refine belowS ?_ (Nat.le_refl _) _ | refine belowT ?_ (by assumption)))⟩

set_option maxHeartbeats 1000000 in
theorem minus_hi (ah al bh bl s : Int) (h1 : ah ≤ 18446744073709551615) (h3 : 0 ≤ bh) (h5 : bh < ah) (h6 : al < bl) (hs : IntKind.u64.wrap (al - bl) = s) (w : World) :
    Calls Tryd.prog 36 #[.agg #[.int .u64 ah, .int .u64 al], .agg #[.int .u64 bh, .int .u64 bl]] w fun e w' => e = .returned (.agg #[.int .u64 (ah - bh - 1), .int .u64 s]) ∧ Below w.heap.size w w' := by
  go_enter Tryd.func36, Tryd.ntmps36
  go_wp2
  exact bodyPost_ret (v := .agg #[.int .u64 (ah - bh - 1), .int .u64 s]) (by simp [results, Tryd.results36, go_sem]) rfl ⟨rfl, (by repeat (first | exact Below.refl _ _ | refine belowN ?_ _ | refine Below.drew ?_ | refine belowA ?_ _ | refine belowS ?_ (Nat.le_refl _) _ | refine belowT ?_ (by assumption)))⟩

theorem minus_m (p q : Int) (hq : 0 ≤ q) (hpq : q ≤ p) (h : p < 170141183460469231731687303715884105728) (w : World) :
    Calls Tryd.prog 36 #[.agg #[.int .u64 (p / 18446744073709551616), .int .u64 (p % 18446744073709551616)], .agg #[.int .u64 (q / 18446744073709551616), .int .u64 (q % 18446744073709551616)]] w fun e w' => e = .returned (.agg #[.int .u64 ((p - q) / 18446744073709551616), .int .u64 ((p - q) % 18446744073709551616)]) ∧ Below w.heap.size w w' := by
  by_cases hc : q % 18446744073709551616 ≤ p % 18446744073709551616
  · have e1 : (p - q) / 18446744073709551616 = p / 18446744073709551616 - q / 18446744073709551616 := by omega
    have e2 : (p - q) % 18446744073709551616 = p % 18446744073709551616 - q % 18446744073709551616 := by omega
    rw [e1, e2]
    exact minus_lo _ _ _ _ (by omega) (by omega) (by omega) (by omega) (by omega) hc w
  · have e1 : (p - q) / 18446744073709551616 = p / 18446744073709551616 - q / 18446744073709551616 - 1 := by omega
    have e2 : (p - q) % 18446744073709551616 = p % 18446744073709551616 - q % 18446744073709551616 + 18446744073709551616 := by omega
    rw [e1, e2]
    exact minus_hi _ _ _ _ _ (by omega) (by omega) (by omega) (by omega) (wrap_dn _ (by omega) (by omega)) w
end Go.Proofs.YthdadpafankbfaaDoor
