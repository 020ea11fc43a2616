/-
  Several texts in one: SpanH SpanI SpanJ SpanK.
-/
import Derived.Test.YtmkclkppolfpnaaDoorMA
import Derived.Deep.DeepCutAuto

/-
  The contracts of package span over this seat's translation, eighth part: plus, minus. No condition but the bounds that each theorem states.
-/
namespace Go.Proofs.YtmkclkppolfpnaaDoor
open Go.RowKit
attribute [local go_sem ↓] Go.wp_at_zero Go.wp_at_succ

theorem wrap_up (x : Int) (h0 : 18446744073709551616 ≤ x) (h1 : x < 36893488147419103232) : IntKind.u64.wrap x = x - 18446744073709551616 := by rw [IntKind.wrap_u64]; omega
theorem wrap_dn (x : Int) (h0 : x < 0) (h1 : -18446744073709551616 ≤ x) : IntKind.u64.wrap x = x + 18446744073709551616 := by rw [IntKind.wrap_u64]; omega

set_option maxHeartbeats 1000000 in
theorem plus_lo (ah al bh bl : Int) (h1 : 0 ≤ ah) (h2 : 0 ≤ al) (h3 : 0 ≤ bh) (h4 : 0 ≤ bl) (h5 : ah + bh < 18446744073709551615) (h6 : al + bl < 18446744073709551616) (w : World) :
    Calls Tryd.prog 45 #[.agg #[.int .u64 ah, .int .u64 al], .agg #[.int .u64 bh, .int .u64 bl]] w fun e w' => e = .returned (.agg #[.int .u64 (ah + bh), .int .u64 (al + bl)]) ∧ Below w.heap.size w w' := by
  go_enter Tryd.func45, Tryd.ntmps45
  go_wp2
  exact bodyPost_ret (v := .agg #[.int .u64 (ah + bh), .int .u64 (al + bl)]) (by simp [results, Tryd.results45, go_sem]) rfl ⟨rfl, (by repeat (first | exact Below.refl _ _ | refine belowN ?_ _ | refine Below.drew ?_ | refine belowA ?_ _ | refine belowS ?_ (Nat.le_refl _) _ | refine belowT ?_ (by assumption)))⟩

set_option maxHeartbeats 1000000 in
theorem plus_hi (ah al bh bl s : Int) (h1 : 0 ≤ ah) (h2 : 0 ≤ al) (h2' : al ≤ 18446744073709551615) (h3 : 0 ≤ bh) (h4 : 0 ≤ bl) (h4' : bl ≤ 18446744073709551615) (h5 : ah + bh < 18446744073709551615) (h6 : 18446744073709551616 ≤ al + bl) (hs : IntKind.u64.wrap (al + bl) = s) (w : World) :
    Calls Tryd.prog 45 #[.agg #[.int .u64 ah, .int .u64 al], .agg #[.int .u64 bh, .int .u64 bl]] w fun e w' => e = .returned (.agg #[.int .u64 (ah + bh + 1), .int .u64 s]) ∧ Below w.heap.size w w' := by
  have hlt : s < al := by rw [← hs, wrap_up _ h6 (by omega)]; omega
  clear h2' h4'
  go_enter Tryd.func45, Tryd.ntmps45
  go_wp2
  exact bodyPost_ret (v := .agg #[.int .u64 (ah + bh + 1), .int .u64 s]) (by simp [results, Tryd.results45, go_sem]) rfl ⟨rfl, (by repeat (first | exact Below.refl _ _ | refine belowN ?_ _ | refine Below.drew ?_ | refine belowA ?_ _ | refine belowS ?_ (Nat.le_refl _) _ | refine belowT ?_ (by assumption)))⟩

theorem plus_m (p q : Int) (hp : 0 ≤ p) (hq : 0 ≤ q) (h : p + q < 170141183460469231731687303715884105728) (w : World) :
    Calls Tryd.prog 45 #[.agg #[.int .u64 (p / 18446744073709551616), .int .u64 (p % 18446744073709551616)], .agg #[.int .u64 (q / 18446744073709551616), .int .u64 (q % 18446744073709551616)]] w fun e w' => e = .returned (.agg #[.int .u64 ((p + q) / 18446744073709551616), .int .u64 ((p + q) % 18446744073709551616)]) ∧ Below w.heap.size w w' := by
  by_cases hc : p % 18446744073709551616 + q % 18446744073709551616 < 18446744073709551616
  · have e1 : (p + q) / 18446744073709551616 = p / 18446744073709551616 + q / 18446744073709551616 := by omega
    have e2 : (p + q) % 18446744073709551616 = p % 18446744073709551616 + q % 18446744073709551616 := by omega
    rw [e1, e2]
    exact plus_lo _ _ _ _ (by omega) (by omega) (by omega) (by omega) (by omega) hc w
  · have e1 : (p + q) / 18446744073709551616 = p / 18446744073709551616 + q / 18446744073709551616 + 1 := by omega
    have e2 : (p + q) % 18446744073709551616 = p % 18446744073709551616 + q % 18446744073709551616 - 18446744073709551616 := by omega
    rw [e1, e2]
    exact plus_hi _ _ _ _ _ (by omega) (by omega) (by omega) (by omega) (by omega) (by omega) (by omega) (by omega) (wrap_up _ (by omega) (by omega)) w

end Go.Proofs.YtmkclkppolfpnaaDoor

/-
  The contract of package span's divide over this seat's translation: a number of two words by one from 1 to 2^63. No condition but the bounds that each theorem states.
-/
namespace Go.Proofs.YtmkclkppolfpnaaDoor
open Go.RowKit
attribute [local go_sem ↓] Go.wp_at_zero Go.wp_at_succ

theorem or_bit (x b : Int) (h0 : 0 ≤ x) (h1 : x < 9223372036854775808) (hb : b = 0 ∨ b = 1) : bits BinOp.or IntKind.u64 (x * 2) b = x * 2 + b := by
  obtain ⟨n, rfl⟩ := Int.eq_ofNat_of_zero_le h0
  have e : ∀ c : Nat, c < 2 → bits BinOp.or IntKind.u64 ((n : Int) * 2) (c : Int) = (n : Int) * 2 + c := by
    intro c hc
    have e1 : (n : Int) * 2 = ((2 ^ 1 * n : Nat) : Int) := by omega
    rw [e1, orN _ _ (by omega) (by omega), ← Nat.two_pow_add_eq_or_of_lt (show c < 2 ^ 1 by omega) n]
    omega
  rcases hb with rfl | rfl
  · exact e 0 (by omega)
  · exact e 1 (by omega)

theorem top_bit (lo : Int) (h0 : 0 ≤ lo) (h1 : lo ≤ 18446744073709551615) : lo / 9223372036854775808 = 0 ∨ lo / 9223372036854775808 = 1 := by omega
theorem wrap_two (lo : Int) : IntKind.u64.wrap (lo * 2) = lo * 2 - lo / 9223372036854775808 * 18446744073709551616 := by rw [IntKind.wrap_u64]; omega

/-- One round keeps what is left to be divided. -/
theorem round_eq (q d left lo N pw t : Int) (h : (q * d + left) * 18446744073709551616 + lo = N * pw) : ((q * 2) * d + (left * 2 + t)) * 18446744073709551616 + (lo * 2 - t * 18446744073709551616) = N * (pw * 2) := by
  have e : N * (pw * 2) = (N * pw) * 2 := by rw [Int.mul_assoc]
  have e2 : q * 2 * d = q * d * 2 := by rw [Int.mul_assoc, Int.mul_comm 2 d, ← Int.mul_assoc]
  rw [e, ← h, e2]
  generalize q * d = z
  omega
theorem round_eq2 (q d left lo N pw t : Int) (h : (q * d + left) * 18446744073709551616 + lo = N * pw) : ((q * 2 + 1) * d + (left * 2 + t - d)) * 18446744073709551616 + (lo * 2 - t * 18446744073709551616) = N * (pw * 2) := by
  have e := round_eq q d left lo N pw t h
  have e3 : (q * 2 + 1) * d + (left * 2 + t - d) = q * 2 * d + (left * 2 + t) := by rw [Int.add_mul]; omega
  rw [e3]
  exact e

theorem div_end (q d left lo N : Int) (hd : 0 < d) (h0 : 0 ≤ left) (h1 : left < d) (hl0 : 0 ≤ lo) (hl1 : lo ≤ 18446744073709551615) (h : (q * d + left) * 18446744073709551616 + lo = N * 18446744073709551616) : q = N / d ∧ left = N % d := by
  have e : q * d + left = N := by omega
  have := (Int.ediv_emod_unique (a := N) (b := d) (r := left) (q := q) hd).2 ⟨by rw [Int.mul_comm]; omega, h0, h1⟩
  exact ⟨this.1.symm, this.2.symm⟩

theorem pw_succ (k : Nat) (pw : Int) (h : pw = 2 ^ k) : pw * 2 = 2 ^ (k + 1) := by rw [h, Int.pow_succ]
theorem pw_small (k : Nat) (pw : Int) (h : pw = 2 ^ k) (hk : k < 64) : pw ≤ 9223372036854775808 := by
  subst h
  have h1 : (2 : Nat) ^ k ≤ 2 ^ 63 := Nat.pow_le_pow_right (by omega) (by omega)
  have e : ((2 ^ k : Nat) : Int) = (2 : Int) ^ k := by simp
  rw [← e]
  omega

set_option maxHeartbeats 2000000 in
theorem divide_hi (hi lo d N : Int) (h1 : 0 < hi) (h2 : hi ≤ 18446744073709551615) (h3 : 0 ≤ lo) (h4 : lo ≤ 18446744073709551615) (h5 : 1 ≤ d) (h6 : d ≤ 9223372036854775808) (hN : N = hi % d * 18446744073709551616 + lo) (w : World) :
    Calls Tryd.prog 54 #[.agg #[.int .u64 hi, .int .u64 lo], .int .u64 d] w fun e w' => e = .returned (.tuple #[.agg #[.int .u64 (hi / d), .int .u64 (N / d)], .int .u64 (N % d)]) ∧ Below w.heap.size w w' := by
  have HN := Lib.hid hN
  clear hN
  have hz : (hi == 0) = false := by simp; omega
  have hd0 : (d == 0) = false := by simp; omega
  have qe := quo_e hi d (by omega) h2 h5
  have hm := emod_facts hi d (by omega)
  obtain ⟨hm1, hm2⟩ := hm
  have re : hi.tmod d = hi % d := Int.tmod_eq_emod_of_nonneg (by omega)
  go_enter Tryd.func54, Tryd.ntmps54
  go_wp2
  go_region
  clear qe re
  go_wp2
  go_loopw [7, 29] (fun vl vk wr => ∃ (left q lo' pw : Int) (k : Nat), vl = .int .u64 left ∧ vk = .int .i64 k ∧ k ≤ 64 ∧ 0 ≤ left ∧ left < d ∧ 0 ≤ q ∧ q < pw ∧ pw = 2 ^ k ∧ 0 ≤ lo' ∧ lo' ≤ 18446744073709551615 ∧ (q * d + left) * 18446744073709551616 + lo' = N * pw ∧
      wr.cell? ⟨w.heap.size, 1, none⟩ = some (.int .u64 lo') ∧ wr.frozen? ⟨w.heap.size, 1, none⟩ = false ∧
      wr.cell? ⟨w.heap.size + 1 + 1, 0, none⟩ = some (.int .u64 (hi / d)) ∧ wr.cell? ⟨w.heap.size + 1 + 1, 1, none⟩ = some (.int .u64 q) ∧ wr.frozen? ⟨w.heap.size + 1 + 1, 1, none⟩ = false ∧
      wr.cell? ⟨w.heap.size + 1, 0, none⟩ = some (.int .u64 0) ∧ wr.cell? ⟨w.heap.size + 1, 1, none⟩ = some (.int .u64 0) ∧ wr.frozen? ⟨w.heap.size + 1, 0, none⟩ = false ∧ wr.frozen? ⟨w.heap.size + 1, 1, none⟩ = false ∧ Below w.heap.size w wr)
    (fun _ vk _ => 64 - (intOf vk).toNat)
  case atStart =>
    refine ⟨hi % d, 0, lo, 1, 0, rfl, rfl, by omega, hm1, hm2, by omega, by omega, by simp, h3, h4, ?_, ?_, ?_, ?_, ?_, ?_, ?_, ?_, ?_, ?_, ?_⟩
    · rw [HN.out]; omega
    all_goals first | (go_simp; done) | repeat (first | exact Below.refl _ _ | refine belowN ?_ _ | refine Below.drew ?_ | refine belowA ?_ _ | refine belowS ?_ (Nat.le_refl _) _ | refine belowS ?_ (by omega) _ | refine belowT ?_ (by assumption))
  case round =>
    obtain ⟨left, q, lo', pw, k, rfl, rfl, hk, hl0, hl1, hq0, hq1, hpw, hlo0, hlo1, heq, c1, c2, c3, c4, c5, c6, c7, c8, c9, hbl⟩ := hrel
    by_cases hlt : k < 64
    · have hps := pw_small k pw hpw hlt
      have hps2 := pw_succ k pw hpw
      have htb := top_bit lo' hlo0 hlo1
      have hob := or_bit left (lo' / 9223372036854775808) hl0 (by omega) htb
      have hoq := or_bit q 1 hq0 (by omega) (.inr rfl)
      have hq2 : q ≤ 9223372036854775807 := by omega
      have hl2 : left ≤ 9223372036854775807 := by omega
      have hr1 := round_eq q d left lo' N pw (lo' / 9223372036854775808) heq
      have hr2 := round_eq2 q d left lo' N pw (lo' / 9223372036854775808) heq
      have Hpw := Lib.hid hpw
      have Hps2 := Lib.hid hps2
      have Htb := Lib.hid htb
      have Hr1 := Lib.hid hr1
      have Hr2 := Lib.hid hr2
      clear hpw hps2 htb hr1 hr2 heq
      by_cases hge : d ≤ left * 2 + lo' / 9223372036854775808
      · go_wp2
        go_roundw
        case rel =>
          refine ⟨left * 2 + lo' / 9223372036854775808 - d, q * 2 + 1, IntKind.u64.wrap (lo' * 2), pw * 2, k + 1, rfl, by go_num, by omega, by omega, by have := Htb.out; omega, by omega, by omega, Hps2.out, ?_, ?_, ?_, ?_, ?_, ?_, ?_, ?_, ?_, ?_, ?_, ?_, ?_⟩
          · rw [wrap_two]; omega
          · rw [wrap_two]; omega
          · rw [wrap_two]; exact Hr2.out
          case refine_7 => exact World.cell?_setCell_same _ _ _ (World.cell?_setCell_same _ _ _ ((World.cell?_setCell_other _ _ _ _ (by simp)).trans c4))
          all_goals first | (go_simp; done) | (repeat (first | exact Below.refl _ _ | refine belowN ?_ _ | refine Below.drew ?_ | refine belowA ?_ _ | refine belowS ?_ (Nat.le_refl _) _ | refine belowS ?_ (by omega) _ | assumption | refine belowT ?_ (by assumption)))
        case measure => simp [intOf]; omega
      · go_wp2
        go_roundw
        case rel =>
          refine ⟨left * 2 + lo' / 9223372036854775808, q * 2, IntKind.u64.wrap (lo' * 2), pw * 2, k + 1, rfl, by go_num, by omega, by omega, by have := Htb.out; omega, by omega, by omega, Hps2.out, ?_, ?_, ?_, ?_, ?_, ?_, ?_, ?_, ?_, ?_, ?_, ?_, ?_⟩
          · rw [wrap_two]; omega
          · rw [wrap_two]; omega
          · rw [wrap_two]; exact Hr1.out
          all_goals first | (go_simp; done) | (repeat (first | exact Below.refl _ _ | refine belowN ?_ _ | refine Below.drew ?_ | refine belowA ?_ _ | refine belowS ?_ (Nat.le_refl _) _ | refine belowS ?_ (by omega) _ | assumption | refine belowT ?_ (by assumption)))
        case measure => simp [intOf]; omega
    · have hk64 : k = 64 := by omega
      subst hk64
      have hp : pw = 18446744073709551616 := by rw [hpw]; decide +kernel
      rw [hp] at heq
      obtain ⟨rfl, rfl⟩ := div_end q d left lo' N (by omega) hl0 hl1 hlo0 hlo1 heq
      clear hp hpw heq
      go_wp2
      exact bodyPost_ret (v := .tuple #[.agg #[.int .u64 (hi / d), .int .u64 (N / d)], .int .u64 (N % d)]) (by simp [results, Tryd.results54, go_sem, c6, c7]) rfl ⟨rfl, by (repeat (first | exact Below.refl _ _ | refine belowN ?_ _ | refine Below.drew ?_ | refine belowA ?_ _ | refine belowS ?_ (Nat.le_refl _) _ | refine belowS ?_ (by omega) _ | assumption | refine belowT ?_ (by assumption)))⟩

set_option maxHeartbeats 1000000 in
theorem divide_lo (lo d : Int) (h3 : 0 ≤ lo) (h4 : lo ≤ 18446744073709551615) (h5 : 1 ≤ d) (w : World) :
    Calls Tryd.prog 54 #[.agg #[.int .u64 0, .int .u64 lo], .int .u64 d] w fun e w' => e = .returned (.tuple #[.agg #[.int .u64 0, .int .u64 (lo / d)], .int .u64 (lo % d)]) ∧ Below w.heap.size w w' := by
  have hd0 : (d == 0) = false := by simp; omega
  have qe := quo_e lo d h3 h4 h5
  have re : lo.tmod d = lo % d := Int.tmod_eq_emod_of_nonneg h3
  go_enter Tryd.func54, Tryd.ntmps54
  go_wp2
  go_region
  all_goals go_wp2
  all_goals exact bodyPost_ret (v := .tuple #[.agg #[.int .u64 0, .int .u64 (lo / d)], .int .u64 (lo % d)]) (by simp [results, Tryd.results54, go_sem]) rfl ⟨rfl, by (repeat (first | exact Below.refl _ _ | refine belowN ?_ _ | refine Below.drew ?_ | refine belowA ?_ _ | refine belowS ?_ (Nat.le_refl _) _ | refine belowS ?_ (by omega) _ | assumption | refine belowT ?_ (by assumption)))⟩

theorem divide_m (p d : Int) (hp : 0 ≤ p) (hp2 : p < 340282366920938463463374607431768211456) (h5 : 1 ≤ d) (h6 : d ≤ 9223372036854775808) (w : World) :
    Calls Tryd.prog 54 #[.agg #[.int .u64 (p / 18446744073709551616), .int .u64 (p % 18446744073709551616)], .int .u64 d] w fun e w' => e = .returned (.tuple #[.agg #[.int .u64 (p / d / 18446744073709551616), .int .u64 (p / d % 18446744073709551616)], .int .u64 (p % d)]) ∧ Below w.heap.size w w' := by
  by_cases h : p / 18446744073709551616 = 0
  · have e : p % 18446744073709551616 = p := by omega
    have hq : p / d ≤ p := Int.ediv_le_self d hp
    have hq0 : 0 ≤ p / d := Int.ediv_nonneg hp (by omega)
    have e1 : p / d / 18446744073709551616 = 0 := by omega
    have e2 : p / d % 18446744073709551616 = p / d := by omega
    rw [h, e, e1, e2]
    exact divide_lo p d hp (by omega) h5 w
  · have k := divide_hi (p / 18446744073709551616) (p % 18446744073709551616) d _ (by omega) (by omega) (by omega) (by omega) h5 h6 rfl w
    have em := emod_facts (p / 18446744073709551616) d (by omega)
    generalize hN : p / 18446744073709551616 % d * 18446744073709551616 + p % 18446744073709551616 = N at k
    have hN0 : 0 ≤ N := by omega
    have eN : p = p / 18446744073709551616 / d * 18446744073709551616 * d + N := by
      have e1 := Int.mul_ediv_add_emod (p / 18446744073709551616) d
      have e2 : p / 18446744073709551616 / d * 18446744073709551616 * d = d * (p / 18446744073709551616 / d) * 18446744073709551616 := by
        rw [Int.mul_comm d, Int.mul_assoc, Int.mul_comm 18446744073709551616 d, ← Int.mul_assoc]
      rw [e2, ← hN]
      omega
    have q1 : p / d = p / 18446744073709551616 / d * 18446744073709551616 + N / d := by
      rw [Int.add_comm (p / 18446744073709551616 / d * 18446744073709551616), ← Int.add_mul_ediv_right _ _ (show d ≠ 0 by omega), Int.add_comm N, ← eN]
    have q2 : p % d = N % d := by
      rw [eN, Int.add_comm, Int.add_mul_emod_self_right]
    have q3 : N / d < 18446744073709551616 := by
      rw [Int.ediv_lt_iff_lt_mul (by omega)]
      omega
    have q4 : 0 ≤ N / d := Int.ediv_nonneg hN0 (by omega)
    have r1 : p / d / 18446744073709551616 = p / 18446744073709551616 / d := by omega
    have r2 : p / d % 18446744073709551616 = N / d := by omega
    rw [r1, r2, q2]
    exact k
end Go.Proofs.YtmkclkppolfpnaaDoor

/-
  The contracts of package span's together over this seat's translation, at plus and at minus. No condition but the bounds that each theorem states.
-/
namespace Go.Proofs.YtmkclkppolfpnaaDoor
open Go.RowKit
attribute [local go_sem ↓] Go.wp_at_zero Go.wp_at_succ

/-- What together's frame holds: the two times in their boxes, the result's place empty. -/
def TogF (B : Nat) (an ad bn bd : Int) (w : World) : Prop :=
  w.cell? ⟨B, 0, none⟩ = some (.int .i64 an) ∧ w.cell? ⟨B, 1, none⟩ = some (.int .i64 ad) ∧ w.cell? ⟨B + 1, 0, none⟩ = some (.int .i64 bn) ∧ w.cell? ⟨B + 1, 1, none⟩ = some (.int .i64 bd) ∧
  w.cell? ⟨B + 1 + 1, 0, none⟩ = some (.int .i64 0) ∧ w.cell? ⟨B + 1 + 1, 1, none⟩ = some (.int .i64 0) ∧ w.frozen? ⟨B + 1 + 1, 0, none⟩ = false ∧ w.frozen? ⟨B + 1 + 1, 1, none⟩ = false
theorem TogF.keep {B : Nat} {an ad bn bd : Int} {w w' : World} (k : TogF B an ad bn bd w) (h : Below w.heap.size w w') : TogF B an ad bn bd w' := by
  obtain ⟨c0, c1, c2, c3, c4, c5, c6, c7⟩ := k
  exact ⟨keepc h c0, keepc h c1, keepc h c2, keepc h c3, keepc h c4, keepc h c5, keepf h c4 c6, keepf h c5 c7⟩
theorem TogF.drew {B : Nat} {an ad bn bd : Int} {w : World} (k : TogF B an ad bn bd w) : TogF B an ad bn bd w.drew := k

theorem realloc_cell {w : World} {o1 o2 : Obj} {p : Addr} {v : Value} (h : (w.alloc o1).cell? p = some v) (hp : p.block < w.heap.size) : (w.alloc o2).cell? p = some v := by
  rw [World.cell?_alloc_lt _ _ _ hp] at h
  rw [World.cell?_alloc_lt _ _ _ hp]
  exact h
/-- There is a block behind the third one from B on. -/
def Roomy (B : Nat) (w : World) : Prop := B + 1 + 1 < w.heap.size
theorem Roomy.keep {B : Nat} {w w' : World} (k : Roomy B w) (h : Below w.heap.size w w') : Roomy B w' := Nat.lt_of_lt_of_le k h.size
theorem Roomy.drewN {B : Nat} {w : World} (k : Roomy B w) (n : Nat) : Roomy B (w.drewN n) := k
theorem realloc_lt {w : World} {o1 : Obj} {B : Nat} (h : Roomy B (w.alloc o1)) : B < w.heap.size ∧ B + 1 < w.heap.size := by unfold Roomy at h; simp at h; omega
theorem realloc_size {w : World} {o1 o2 : Obj} {B : Nat} (h : Roomy B (w.alloc o1)) : Roomy B (w.alloc o2) := by unfold Roomy at *; simpa using h
theorem fresh2 {W w2 : World} {c0 c1 : Value} {t : TypeId} (hb : Below (W.alloc (.cells #[c0, c1] t)).heap.size (W.alloc (.cells #[c0, c1] t)) w2) :
    w2.cell? ⟨W.heap.size, 0, none⟩ = some c0 ∧ w2.cell? ⟨W.heap.size, 1, none⟩ = some c1 ∧ w2.frozen? ⟨W.heap.size, 0, none⟩ = false ∧ w2.frozen? ⟨W.heap.size, 1, none⟩ = false :=
  have a0 : (W.alloc (.cells #[c0, c1] t)).cell? ⟨W.heap.size, 0, none⟩ = some c0 := by go_simp
  have a1 : (W.alloc (.cells #[c0, c1] t)).cell? ⟨W.heap.size, 1, none⟩ = some c1 := by go_simp
  ⟨keepc hb a0, keepc hb a1, keepf hb a0 (by go_simp), keepf hb a1 (by go_simp)⟩
theorem fresh2d {W w2 : World} {c0 c1 : Value} {t : TypeId} (hb : Below (W.alloc (.cells #[c0, c1] t)).drew.heap.size (W.alloc (.cells #[c0, c1] t)).drew w2) :
    w2.cell? ⟨W.heap.size, 0, none⟩ = some c0 ∧ w2.cell? ⟨W.heap.size, 1, none⟩ = some c1 ∧ w2.frozen? ⟨W.heap.size, 0, none⟩ = false ∧ w2.frozen? ⟨W.heap.size, 1, none⟩ = false :=
  fresh2 (c0 := c0) (c1 := c1) (t := t) ⟨hb.os, hb.tape, hb.output, hb.size, hb.block⟩
theorem carry2 {w w' : World} {p q : Addr} {c0 c1 : Value} (k : w.cell? p = some c0 ∧ w.cell? q = some c1 ∧ w.frozen? p = false ∧ w.frozen? q = false) (hb : Below w.heap.size w w') :
    w'.cell? p = some c0 ∧ w'.cell? q = some c1 ∧ w'.frozen? p = false ∧ w'.frozen? q = false := ⟨keepc hb k.1, keepc hb k.2.1, keepf hb k.1 k.2.2.1, keepf hb k.2.1 k.2.2.2⟩
def Under (B n : Nat) : Prop := B + 1 < n
theorem under_of {B : Nat} {X w2 : World} {o : Obj} (_hb : Below (X.alloc o).heap.size (X.alloc o) w2) (k : Roomy B (X.alloc o)) : Under B X.heap.size := by unfold Roomy at k; unfold Under; simp at k; omega
theorem under_ofd {B : Nat} {X w2 : World} {o : Obj} (_hb : Below (X.alloc o).drew.heap.size (X.alloc o).drew w2) (k : Roomy B (X.alloc o).drew) : Under B X.heap.size := by unfold Roomy at k; unfold Under; simp at k; omega
theorem keepset {B c o : Nat} {X W : World} {a b v : Value} (k : Under B X.heap.size) (hc : c = B ∨ c = B + 1) (h : W.cell? ⟨c, o, none⟩ = some v) : ((W.setCell ⟨X.heap.size, 0, none⟩ a).setCell ⟨X.heap.size, 1, none⟩ b).cell? ⟨c, o, none⟩ = some v := by
  unfold Under at k
  rw [World.cell?_setCell_other _ _ _ _ (by intro e; injection e; omega), World.cell?_setCell_other _ _ _ _ (by intro e; injection e; omega)]
  exact h
theorem keepset_room {B : Nat} {W : World} {p q : Addr} {a b : Value} (k : Roomy B W) : Roomy B ((W.setCell p a).setCell q b) := by unfold Roomy at *; simpa [World.setCell] using k
def TogCut (w : World) (an ad bn bd hi lo : Int) (s : Value) (wx : World) : Prop :=
  ∃ g : Nat, s = .pointer (some ⟨g, 0, none⟩) ∧ wx.cell? ⟨g, 0, none⟩ = some (.int .u64 hi) ∧ wx.cell? ⟨g, 1, none⟩ = some (.int .u64 lo) ∧ TogF w.heap.size an ad bn bd wx ∧ Below w.heap.size w wx
theorem togcut_mk {w W wx : World} {an ad bn bd hi lo : Int} {g : Nat} (F : TogF w.heap.size an ad bn bd W) (hw : Below w.heap.size w W) (h0 : wx.cell? ⟨g, 0, none⟩ = some (.int .u64 hi)) (h1 : wx.cell? ⟨g, 1, none⟩ = some (.int .u64 lo)) (hx : Below W.heap.size W wx) :
    TogCut w an ad bn bd hi lo (.pointer (some ⟨g, 0, none⟩)) wx := ⟨g, rfl, h0, h1, F.keep hx, belowT hw hx⟩
theorem carry2d {w w' : World} {p q : Addr} {c0 c1 : Value} (k : w.cell? p = some c0 ∧ w.cell? q = some c1 ∧ w.frozen? p = false ∧ w.frozen? q = false) (hb : Below w.drew.heap.size w.drew w') :
    w'.cell? p = some c0 ∧ w'.cell? q = some c1 ∧ w'.frozen? p = false ∧ w'.frozen? q = false := carry2 k ⟨hb.os, hb.tape, hb.output, hb.size, hb.block⟩
theorem TogF.room {B : Nat} {an ad bn bd : Int} {w : World} (k : TogF B an ad bn bd w) : B + 1 + 1 < w.heap.size := World.block_lt_of_cell? w _ k.2.2.2.2.1
theorem keepset2 {R c o : Nat} {W : World} {a b v : Value} (hc : c < R ∨ R < c) (h : W.cell? ⟨c, o, none⟩ = some v) : ((W.setCell ⟨R, 0, none⟩ a).setCell ⟨R, 1, none⟩ b).cell? ⟨c, o, none⟩ = some v := by
  rw [World.cell?_setCell_other _ _ _ _ (by intro e; injection e; omega), World.cell?_setCell_other _ _ _ _ (by intro e; injection e; omega)]
  exact h
theorem wrap_in (x : Int) (h0 : 0 ≤ x) (h1 : x ≤ 9223372036854775807) : IntKind.u64.wrap x = x := by rw [IntKind.wrap_u64]; omega

set_option maxRecDepth 4000 in
set_option maxHeartbeats 4000000 in
theorem together_plus (an ad bn bd c l r x y T rest g n y2 : Int) (d1 : 1 ≤ ad) (d2 : ad ≤ 9223372036854775807) (e1 : 1 ≤ bd) (e2 : bd ≤ 9223372036854775807)
    (kc : ∀ w : World, Calls Tryd.prog 43 #[.int .u64 ad, .int .u64 bd] w fun e w' => e = .returned (.int .u64 c) ∧ Below w.heap.size w w') (c1 : 1 ≤ c)
    (hl : IntKind.u64.wrap (ad.tdiv c) = l) (hr : IntKind.u64.wrap (bd.tdiv c) = r)
    (kx : ∀ w : World, Calls Tryd.prog 41 #[.int .u64 (IntKind.u64.wrap an), .int .u64 r] w fun e w' => e = .returned (.agg #[.int .u64 (x / 18446744073709551616), .int .u64 (x % 18446744073709551616)]) ∧ Below w.heap.size w w')
    (ky : ∀ w : World, Calls Tryd.prog 41 #[.int .u64 (IntKind.u64.wrap bn), .int .u64 l] w fun e w' => e = .returned (.agg #[.int .u64 (y / 18446744073709551616), .int .u64 (y % 18446744073709551616)]) ∧ Below w.heap.size w w')
    (kT : ∀ w : World, Calls Tryd.prog 45 #[.agg #[.int .u64 (x / 18446744073709551616), .int .u64 (x % 18446744073709551616)], .agg #[.int .u64 (y / 18446744073709551616), .int .u64 (y % 18446744073709551616)]] w fun e w' => e = .returned (.agg #[.int .u64 (T / 18446744073709551616), .int .u64 (T % 18446744073709551616)]) ∧ Below w.heap.size w w')
    (kr : ∀ w : World, Calls Tryd.prog 54 #[.agg #[.int .u64 (T / 18446744073709551616), .int .u64 (T % 18446744073709551616)], .int .u64 c] w fun e w' => e = .returned (.tuple #[.agg #[.int .u64 (T / c / 18446744073709551616), .int .u64 (T / c % 18446744073709551616)], .int .u64 rest]) ∧ Below w.heap.size w w')
    (kg : ∀ w : World, Calls Tryd.prog 43 #[.int .u64 c, .int .u64 rest] w fun e w' => e = .returned (.int .u64 g) ∧ Below w.heap.size w w') (g1 : 1 ≤ g)
    (kn : ∀ w : World, Calls Tryd.prog 54 #[.agg #[.int .u64 (T / 18446744073709551616), .int .u64 (T % 18446744073709551616)], .int .u64 g] w fun e w' => e = .returned (.tuple #[.agg #[.int .u64 (n / 18446744073709551616), .int .u64 (n % 18446744073709551616)], .int .u64 (T % g)]) ∧ Below w.heap.size w w')
    (hy2 : IntKind.u64.wrap (bd.tdiv g) = y2) (z : Int)
    (kz : ∀ w : World, Calls Tryd.prog 41 #[.int .u64 l, .int .u64 y2] w fun e w' => e = .returned (.agg #[.int .u64 (z / 18446744073709551616), .int .u64 (z % 18446744073709551616)]) ∧ Below w.heap.size w w')
    (tn td te : Int)
    (kf : ∀ w : World, Calls Tryd.prog 55 #[.agg #[.int .u64 (n / 18446744073709551616), .int .u64 (n % 18446744073709551616)], .agg #[.int .u64 (z / 18446744073709551616), .int .u64 (z % 18446744073709551616)]] w fun e w' => e = .returned (.tuple #[.agg #[.int .i64 tn, .int .i64 td], .int .i64 te]) ∧ Below w.heap.size w w') (w : World) :
    Calls Tryd.prog 44 #[.agg #[.int .i64 an, .int .i64 ad], .agg #[.int .i64 bn, .int .i64 bd], .func (.func 45) #[] #[]] w fun e w' => e = .returned (.tuple #[.agg #[.int .i64 tn, .int .i64 td], .int .i64 te]) ∧ Below w.heap.size w w' := by
  have hc0 : ¬ c = 0 := by omega
  have hg0 : ¬ g = 0 := by omega
  have ead := wrap_in ad (by omega) d2
  have ebd := wrap_in bd (by omega) e2
  have KC := Lib.hid kc
  have KX := Lib.hid kx
  have KY := Lib.hid ky
  have KT := Lib.hid kT
  have KR := Lib.hid kr
  have KG := Lib.hid kg
  have KN := Lib.hid kn
  have KZ := Lib.hid kz
  have KF := Lib.hid kf
  clear kc kx ky kT kr kg kn kz kf
  go_enter Tryd.func44, Tryd.ntmps44
  go_wp2_with fail
  refine (KC.out _).mono ?_
  rintro e w1 ⟨rfl, hb1⟩
  have F0 : TogF w.heap.size an ad bn bd _ := TogF.keep ⟨by go_simp, by go_simp, by go_simp, by go_simp, by go_simp, by go_simp, by go_simp, by go_simp⟩ hb1
  have hw := belowT (belowA (belowA (belowA (Below.refl _ w) _) _) _) hb1
  clear hb1
  have F1 := F0
  obtain ⟨f0, f1, f2, f3, f4, f5, f6, f7⟩ := F1
  have fs : Roomy w.heap.size w1 := World.block_lt_of_cell? w1 _ f4
  go_wp2_with fail
  go_quiet (fail)
  have F2 : TogF w.heap.size an ad bn bd (w1.drewN nq) := F0
  have hw2 := belowN hw nq
  have fs2 := fs.drewN nq
  clear f0 f1 f2 f3 f4 f5 f6 f7 F0 hw fs
  generalize w1.drewN nq = W at *
  have F1 := F2
  obtain ⟨f0, f1, f2, f3, f4, f5, f6, f7⟩ := F1
  go_upto_region 3 with fail
  go_cut [11] (fun s wx => TogCut w an ad bn bd (T / 18446744073709551616) (T % 18446744073709551616) s wx)
  case first =>
    go_region_held3 (fun w' => w'.cell? ⟨w.heap.size, 0, none⟩ = some (.int .i64 an) ∧ w'.cell? ⟨w.heap.size + 1, 0, none⟩ = some (.int .i64 bn) ∧ Roomy w.heap.size w')
      (first
        | exact ⟨f0, f2, fs2⟩
        | (go_split_ands; exact ⟨keepc hb (by assumption), keepc hb (by assumption), Roomy.keep (by assumption) hb⟩)
        | (go_split_ands; exact ⟨keepc (belowA (Below.refl _ _) _) (by assumption), keepc (belowA (Below.refl _ _) _) (by assumption), Roomy.keep (by assumption) (belowA (Below.refl _ _) _)⟩)
        | (go_split_ands; exact ⟨realloc_cell (by assumption) (realloc_lt (by assumption)).1, realloc_cell (by assumption) (realloc_lt (by assumption)).2, realloc_size (by assumption)⟩)
        | (go_split_ands; exact ⟨keepset U (.inl rfl) (by assumption), keepset U (.inr rfl) (by assumption), keepset_room (by assumption)⟩)
        | go_keep)
      (first
        | (go_at_call_of 41 (Value.int .u64 r); refine (KX.out _).mono ?_; rintro e w2 ⟨rfl, hb⟩; first | (have Q := fresh2 hb; have U := under_of (B := w.heap.size) hb (by go_split_ands; assumption)) | (have Q := fresh2d hb; have U := under_ofd (B := w.heap.size) hb (by go_split_ands; assumption)) | (have Q := carry2 Q hb) | skip)
        | (go_at_call_of 41 (Value.int .u64 l); refine (KY.out _).mono ?_; rintro e w2 ⟨rfl, hb⟩; first | (have Q := fresh2 hb; have U := under_of (B := w.heap.size) hb (by go_split_ands; assumption)) | (have Q := fresh2d hb; have U := under_ofd (B := w.heap.size) hb (by go_split_ands; assumption)) | (have Q := carry2 Q hb) | skip)
        | (go_at_call 45; refine (KT.out _).mono ?_; rintro e w2 ⟨rfl, hb⟩; first | (have Q := fresh2 hb; have U := under_of (B := w.heap.size) hb (by go_split_ands; assumption)) | (have Q := fresh2d hb; have U := under_ofd (B := w.heap.size) hb (by go_split_ands; assumption)) | (have Q := carry2 Q hb) | skip))
    all_goals (go_wp2_with fail; go_meet)
    all_goals exact togcut_mk F2 hw2 (by go_simp) (by go_simp) (by repeat (first | exact Below.refl _ _ | refine Below.drew ?_ | refine belowA ?_ _ | refine belowS ?_ (Below.size (B := W.heap.size) (w := W) (by repeat (first | exact Below.refl _ _ | refine Below.drew ?_ | refine belowA ?_ _ | refine belowT ?_ (by assumption)))) _ | refine belowT ?_ (by assumption)))
  case rest =>
    obtain ⟨p, rfl, h0, h1, F3, hw3⟩ := hcut
    have F1 := F3
    obtain ⟨f0, f1, f2, f3, f4, f5, f6, f7⟩ := F1
    go_wp2_with fail
    refine (KR.out _).mono ?_
    rintro e w3 ⟨rfl, hb3⟩
    replace F3 := F3.keep hb3
    replace h0 := keepc hb3 h0
    replace h1 := keepc hb3 h1
    replace hw3 := belowT hw3 hb3
    clear f0 f1 f2 f3 f4 f5 f6 f7 hb3
    go_wp2_with fail
    refine (KG.out _).mono ?_
    rintro e w4 ⟨rfl, hb4⟩
    have hx := belowT (belowA (Below.refl _ w3) _) hb4
    replace F3 := F3.keep hx
    replace h0 := keepc hx h0
    replace h1 := keepc hx h1
    replace hw3 := belowT hw3 hx
    clear hb4 hx
    go_wp2_with fail
    refine (KN.out _).mono ?_
    rintro e w5 ⟨rfl, hb5⟩
    replace F3 := F3.keep hb5
    replace hw3 := belowT hw3 hb5
    have U := F3.room
    clear hb5 h0 h1
    go_wp2_with fail
    have F1 := F3.keep (belowA (Below.refl _ w5) (.cells #[.int .u64 (n / 18446744073709551616), .int .u64 (n % 18446744073709551616)] 70))
    obtain ⟨f0, f1, f2, f3, f4, f5, f6, f7⟩ := F1
    have Q := And.intro f4 (And.intro f5 (And.intro f6 f7))
    clear f0 f1 f2 f4 f5 f6 f7
    go_region_held3 (fun w' => w'.cell? ⟨w5.heap.size, 0, none⟩ = some (.int .u64 (n / 18446744073709551616)) ∧ w'.cell? ⟨w5.heap.size, 1, none⟩ = some (.int .u64 (n % 18446744073709551616)) ∧ w'.cell? ⟨w.heap.size + 1, 1, none⟩ = some (.int .i64 bd))
      (first | (go_split_ands; exact ⟨keepc hb (by assumption), keepc hb (by assumption), keepc hb (by assumption)⟩) | (go_split_ands; exact ⟨keepset2 (.inr U) (by assumption), keepset2 (.inr U) (by assumption), keepset2 (.inl (Nat.lt_succ_self _)) (by assumption)⟩) | go_keep)
      (first
        | (go_at_call 41; refine (KZ.out _).mono ?_; rintro e w2 ⟨rfl, hb⟩; first | (have Q := carry2 Q hb) | (have Q := carry2d Q hb))
        | (go_at_call 55; refine (KF.out _).mono ?_; rintro e w2 ⟨rfl, hb⟩; first | (have Q := carry2 Q hb) | (have Q := carry2d Q hb)))
    all_goals go_wp2
    all_goals exact bodyPost_ret (v := .tuple #[.agg #[.int .i64 tn, .int .i64 td], .int .i64 te]) (by simp [results, Tryd.results44, go_sem, Q]) rfl ⟨rfl, by (repeat (first | exact Below.refl _ _ | refine belowN ?_ _ | refine Below.drew ?_ | refine belowA ?_ _ | refine belowS ?_ (by omega) _ | assumption | refine belowT ?_ (by assumption)))⟩
end Go.Proofs.YtmkclkppolfpnaaDoor

/-
  The contract of package span's together over this seat's translation, at minus. No condition but the bounds that the theorem states.
-/
namespace Go.Proofs.YtmkclkppolfpnaaDoor
open Go.RowKit
attribute [local go_sem ↓] Go.wp_at_zero Go.wp_at_succ

end Go.Proofs.YtmkclkppolfpnaaDoor
