/-
  The contract of package span's divide over this seat's translation: a number of two words by one from 1 to 2^63. No condition but the bounds that each theorem states.
-/
import Derived.Test.YthdadpafankbfaaDoorSpanH
namespace Go.Proofs.YthdadpafankbfaaDoor
open Go.RowKit
attribute [local go_sem ↓] Go.wp_at_zero Go.wp_at_succ

theorem or_bit (x b : Int) (h0 : 0 ≤ x) (h1 : x < 9223372036854775808) (hb : b = 0 ∨ b = 1) : bits BinOp.or IntKind.u64 (x * 2) b = x * 2 + b := by
  obtain ⟨n, rfl⟩ := Int.eq_ofNat_of_zero_le h0
  have e : ∀ c : Nat, c < 2 → bits BinOp.or IntKind.u64 ((n : Int) * 2) (c : Int) = (n : Int) * 2 + c := by
    intro c hc
    have e1 : (n : Int) * 2 = ((2 ^ 1 * n : Nat) : Int) := by omega
    rw [e1, orN _ _ (by omega) (by omega), ← Nat.two_pow_add_eq_or_of_lt (show c < 2 ^ 1 by omega) n]
    omega
  rcases hb with rfl | rfl
  · exact e 0 (by omega)
  · exact e 1 (by omega)

theorem top_bit (lo : Int) (h0 : 0 ≤ lo) (h1 : lo ≤ 18446744073709551615) : lo / 9223372036854775808 = 0 ∨ lo / 9223372036854775808 = 1 := by omega
theorem wrap_two (lo : Int) : IntKind.u64.wrap (lo * 2) = lo * 2 - lo / 9223372036854775808 * 18446744073709551616 := by rw [IntKind.wrap_u64]; omega

/-- One round keeps what is left to be divided. -/
theorem round_eq (q d left lo N pw t : Int) (h : (q * d + left) * 18446744073709551616 + lo = N * pw) : ((q * 2) * d + (left * 2 + t)) * 18446744073709551616 + (lo * 2 - t * 18446744073709551616) = N * (pw * 2) := by
  have e : N * (pw * 2) = (N * pw) * 2 := by rw [Int.mul_assoc]
  have e2 : q * 2 * d = q * d * 2 := by rw [Int.mul_assoc, Int.mul_comm 2 d, ← Int.mul_assoc]
  rw [e, ← h, e2]
  generalize q * d = z
  omega
theorem round_eq2 (q d left lo N pw t : Int) (h : (q * d + left) * 18446744073709551616 + lo = N * pw) : ((q * 2 + 1) * d + (left * 2 + t - d)) * 18446744073709551616 + (lo * 2 - t * 18446744073709551616) = N * (pw * 2) := by
  have e := round_eq q d left lo N pw t h
  have e3 : (q * 2 + 1) * d + (left * 2 + t - d) = q * 2 * d + (left * 2 + t) := by rw [Int.add_mul]; omega
  rw [e3]
  exact e

theorem div_end (q d left lo N : Int) (hd : 0 < d) (h0 : 0 ≤ left) (h1 : left < d) (hl0 : 0 ≤ lo) (hl1 : lo ≤ 18446744073709551615) (h : (q * d + left) * 18446744073709551616 + lo = N * 18446744073709551616) : q = N / d ∧ left = N % d := by
  have e : q * d + left = N := by omega
  have := (Int.ediv_emod_unique (a := N) (b := d) (r := left) (q := q) hd).2 ⟨by rw [Int.mul_comm]; omega, h0, h1⟩
  exact ⟨this.1.symm, this.2.symm⟩

theorem pw_succ (k : Nat) (pw : Int) (h : pw = 2 ^ k) : pw * 2 = 2 ^ (k + 1) := by rw [h, Int.pow_succ]
theorem pw_small (k : Nat) (pw : Int) (h : pw = 2 ^ k) (hk : k < 64) : pw ≤ 9223372036854775808 := by
  subst h
  have h1 : (2 : Nat) ^ k ≤ 2 ^ 63 := Nat.pow_le_pow_right (by omega) (by omega)
  have e : ((2 ^ k : Nat) : Int) = (2 : Int) ^ k := by simp
  rw [← e]
  omega

set_option maxHeartbeats 2000000 in
theorem divide_hi (hi lo d N : Int) (h1 : 0 < hi) (h2 : hi ≤ 18446744073709551615) (h3 : 0 ≤ lo) (h4 : lo ≤ 18446744073709551615) (h5 : 1 ≤ d) (h6 : d ≤ 9223372036854775808) (hN : N = hi % d * 18446744073709551616 + lo) (w : World) :
    Calls Tryd.prog 54 #[.agg #[.int .u64 hi, .int .u64 lo], .int .u64 d] w fun e w' => e = .returned (.tuple #[.agg #[.int .u64 (hi / d), .int .u64 (N / d)], .int .u64 (N % d)]) ∧ Below w.heap.size w w' := by
  have HN := Lib.hid hN
  clear hN
  have hz : (hi == 0) = false := by simp; omega
  have hd0 : (d == 0) = false := by simp; omega
  have qe := quo_e hi d (by omega) h2 h5
  have hm := emod_facts hi d (by omega)
  obtain ⟨hm1, hm2⟩ := hm
  have re : hi.tmod d = hi % d := Int.tmod_eq_emod_of_nonneg (by omega)
  go_enter Tryd.func54, Tryd.ntmps54
  go_wp2
  go_region
  clear qe re
  go_wp2
  go_loopw [7, 29] (fun vl vk wr => ∃ (left q lo' pw : Int) (k : Nat), vl = .int .u64 left ∧ vk = .int .i64 k ∧ k ≤ 64 ∧ 0 ≤ left ∧ left < d ∧ 0 ≤ q ∧ q < pw ∧ pw = 2 ^ k ∧ 0 ≤ lo' ∧ lo' ≤ 18446744073709551615 ∧ (q * d + left) * 18446744073709551616 + lo' = N * pw ∧
      wr.cell? ⟨w.heap.size, 1, none⟩ = some (.int .u64 lo') ∧ wr.frozen? ⟨w.heap.size, 1, none⟩ = false ∧
      wr.cell? ⟨w.heap.size + 1 + 1, 0, none⟩ = some (.int .u64 (hi / d)) ∧ wr.cell? ⟨w.heap.size + 1 + 1, 1, none⟩ = some (.int .u64 q) ∧ wr.frozen? ⟨w.heap.size + 1 + 1, 1, none⟩ = false ∧
      wr.cell? ⟨w.heap.size + 1, 0, none⟩ = some (.int .u64 0) ∧ wr.cell? ⟨w.heap.size + 1, 1, none⟩ = some (.int .u64 0) ∧ wr.frozen? ⟨w.heap.size + 1, 0, none⟩ = false ∧ wr.frozen? ⟨w.heap.size + 1, 1, none⟩ = false ∧ Below w.heap.size w wr)
    (fun _ vk _ => 64 - (intOf vk).toNat)
  case atStart =>
    refine ⟨hi % d, 0, lo, 1, 0, rfl, rfl, by omega, hm1, hm2, by omega, by omega, by simp, h3, h4, ?_, ?_, ?_, ?_, ?_, ?_, ?_, ?_, ?_, ?_, ?_⟩
    · rw [HN.out]; omega
    all_goals first | (go_simp; done) | repeat (first | exact Below.refl _ _ | refine belowN ?_ _ | refine Below.drew ?_ | refine belowA ?_ _ | refine belowS ?_ (Nat.le_refl _) _ | refine belowS ?_ (by omega) _ | refine belowT ?_ (by assumption))
  case round =>
    obtain ⟨left, q, lo', pw, k, rfl, rfl, hk, hl0, hl1, hq0, hq1, hpw, hlo0, hlo1, heq, c1, c2, c3, c4, c5, c6, c7, c8, c9, hbl⟩ := hrel
    by_cases hlt : k < 64
    · have hps := pw_small k pw hpw hlt
      have hps2 := pw_succ k pw hpw
      have htb := top_bit lo' hlo0 hlo1
      have hob := or_bit left (lo' / 9223372036854775808) hl0 (by omega) htb
      have hoq := or_bit q 1 hq0 (by omega) (.inr rfl)
      have hq2 : q ≤ 9223372036854775807 := by omega
      have hl2 : left ≤ 9223372036854775807 := by omega
      have hr1 := round_eq q d left lo' N pw (lo' / 9223372036854775808) heq
      have hr2 := round_eq2 q d left lo' N pw (lo' / 9223372036854775808) heq
      have Hpw := Lib.hid hpw
      have Hps2 := Lib.hid hps2
      have Htb := Lib.hid htb
      have Hr1 := Lib.hid hr1
      have Hr2 := Lib.hid hr2
      clear hpw hps2 htb hr1 hr2 heq
      by_cases hge : d ≤ left * 2 + lo' / 9223372036854775808
      · go_wp2
        go_roundw
        case rel =>
          refine ⟨left * 2 + lo' / 9223372036854775808 - d, q * 2 + 1, IntKind.u64.wrap (lo' * 2), pw * 2, k + 1, rfl, by go_num, by omega, by omega, by have := Htb.out; omega, by omega, by omega, Hps2.out, ?_, ?_, ?_, ?_, ?_, ?_, ?_, ?_, ?_, ?_, ?_, ?_, ?_⟩
          · rw [wrap_two]; omega
          · rw [wrap_two]; omega
          · rw [wrap_two]; exact Hr2.out
          case refine_7 => exact World.cell?_setCell_same _ _ _ (World.cell?_setCell_same _ _ _ ((World.cell?_setCell_other _ _ _ _ (by simp)).trans c4))
          all_goals first | (go_simp; done) | (repeat (first | exact Below.refl _ _ | refine belowN ?_ _ | refine Below.drew ?_ | refine belowA ?_ _ | refine belowS ?_ (Nat.le_refl _) _ | refine belowS ?_ (by omega) _ | assumption | refine belowT ?_ (by assumption)))
        case measure => simp [intOf]; omega
      · go_wp2
        go_roundw
        case rel =>
          refine ⟨left * 2 + lo' / 9223372036854775808, q * 2, IntKind.u64.wrap (lo' * 2), pw * 2, k + 1, rfl, by go_num, by omega, by omega, by have := Htb.out; omega, by omega, by omega, Hps2.out, ?_, ?_, ?_, ?_, ?_, ?_, ?_, ?_, ?_, ?_, ?_, ?_, ?_⟩
          · rw [wrap_two]; omega
          · rw [wrap_two]; omega
          · rw [wrap_two]; exact Hr1.out
          all_goals first | (go_simp; done) | (repeat (first | exact Below.refl _ _ | refine belowN ?_ _ | refine Below.drew ?_ | refine belowA ?_ _ | refine belowS ?_ (Nat.le_refl _) _ | refine belowS ?_ (by omega) _ | assumption | refine belowT ?_ (by assumption)))
        case measure => simp [intOf]; omega
    · have hk64 : k = 64 := by omega
      subst hk64
      have hp : pw = 18446744073709551616 := by rw [hpw]; decide +kernel
      rw [hp] at heq
      obtain ⟨rfl, rfl⟩ := div_end q d left lo' N (by omega) hl0 hl1 hlo0 hlo1 heq
      clear hp hpw heq
      go_wp2
      exact bodyPost_ret (v := .tuple #[.agg #[.int .u64 (hi / d), .int .u64 (N / d)], .int .u64 (N % d)]) (by simp [results, Tryd.results54, go_sem, c6, c7]) rfl ⟨rfl, by (repeat (first | exact Below.refl _ _ | refine belowN ?_ _ | refine Below.drew ?_ | refine belowA ?_ _ | refine belowS ?_ (Nat.le_refl _) _ | refine belowS ?_ (by omega) _ | assumption | refine belowT ?_ (by assumption)))⟩

set_option maxHeartbeats 1000000 in
theorem divide_lo (lo d : Int) (h3 : 0 ≤ lo) (h4 : lo ≤ 18446744073709551615) (h5 : 1 ≤ d) (w : World) :
    Calls Tryd.prog 54 #[.agg #[.int .u64 0, .int .u64 lo], .int .u64 d] w fun e w' => e = .returned (.tuple #[.agg #[.int .u64 0, .int .u64 (lo / d)], .int .u64 (lo % d)]) ∧ Below w.heap.size w w' := by
  have hd0 : (d == 0) = false := by simp; omega
  have qe := quo_e lo d h3 h4 h5
  have re : lo.tmod d = lo % d := Int.tmod_eq_emod_of_nonneg h3
  go_enter Tryd.func54, Tryd.ntmps54
  go_wp2
  go_region
  all_goals go_wp2
  all_goals exact bodyPost_ret (v := .tuple #[.agg #[.int .u64 0, .int .u64 (lo / d)], .int .u64 (lo % d)]) (by simp [results, Tryd.results54, go_sem]) rfl ⟨rfl, by (repeat (first | exact Below.refl _ _ | refine belowN ?_ _ | refine Below.drew ?_ | refine belowA ?_ _ | refine belowS ?_ (Nat.le_refl _) _ | refine belowS ?_ (by omega) _ | assumption | refine belowT ?_ (by assumption)))⟩

theorem divide_m (p d : Int) (hp : 0 ≤ p) (hp2 : p < 340282366920938463463374607431768211456) (h5 : 1 ≤ d) (h6 : d ≤ 9223372036854775808) (w : World) :
    Calls Tryd.prog 54 #[.agg #[.int .u64 (p / 18446744073709551616), .int .u64 (p % 18446744073709551616)], .int .u64 d] w fun e w' => e = .returned (.tuple #[.agg #[.int .u64 (p / d / 18446744073709551616), .int .u64 (p / d % 18446744073709551616)], .int .u64 (p % d)]) ∧ Below w.heap.size w w' := by
  by_cases h : p / 18446744073709551616 = 0
  · have e : p % 18446744073709551616 = p := by omega
    have hq : p / d ≤ p := Int.ediv_le_self d hp
    have hq0 : 0 ≤ p / d := Int.ediv_nonneg hp (by omega)
    have e1 : p / d / 18446744073709551616 = 0 := by omega
    have e2 : p / d % 18446744073709551616 = p / d := by omega
    rw [h, e, e1, e2]
    exact divide_lo p d hp (by omega) h5 w
  · have k := divide_hi (p / 18446744073709551616) (p % 18446744073709551616) d _ (by omega) (by omega) (by omega) (by omega) h5 h6 rfl w
    have em := emod_facts (p / 18446744073709551616) d (by omega)
    generalize hN : p / 18446744073709551616 % d * 18446744073709551616 + p % 18446744073709551616 = N at k
    have hN0 : 0 ≤ N := by omega
    have eN : p = p / 18446744073709551616 / d * 18446744073709551616 * d + N := by
      have e1 := Int.mul_ediv_add_emod (p / 18446744073709551616) d
      have e2 : p / 18446744073709551616 / d * 18446744073709551616 * d = d * (p / 18446744073709551616 / d) * 18446744073709551616 := by
        rw [Int.mul_comm d, Int.mul_assoc, Int.mul_comm 18446744073709551616 d, ← Int.mul_assoc]
      rw [e2, ← hN]
      omega
    have q1 : p / d = p / 18446744073709551616 / d * 18446744073709551616 + N / d := by
      rw [Int.add_comm (p / 18446744073709551616 / d * 18446744073709551616), ← Int.add_mul_ediv_right _ _ (show d ≠ 0 by omega), Int.add_comm N, ← eN]
    have q2 : p % d = N % d := by
      rw [eN, Int.add_comm, Int.add_mul_emod_self_right]
    have q3 : N / d < 18446744073709551616 := by
      rw [Int.ediv_lt_iff_lt_mul (by omega)]
      omega
    have q4 : 0 ≤ N / d := Int.ediv_nonneg hN0 (by omega)
    have r1 : p / d / 18446744073709551616 = p / 18446744073709551616 / d := by omega
    have r2 : p / d % 18446744073709551616 = N / d := by omega
    rw [r1, r2, q2]
    exact k
end Go.Proofs.YthdadpafankbfaaDoor
