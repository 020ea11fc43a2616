/-
  The contract of the given package gavotteref01's Make over this seat's translation. Conditions: those that each theorem states.
-/
import Derived.Test.YthdadpafankbfaaDoorRefL
namespace Go.Proofs.YthdadpafankbfaaDoor
open Go.RowKit
attribute [local go_sem ↓] Go.wp_at_zero Go.wp_at_succ

theorem lt_n {n : Int} (h : In64 n) : (n.natAbs : Int) < 10000 ^ 20 := by
  unfold In64 at h
  have h1 := pow_mono 5 20 (by omega)
  have h2 : (10000 : Int) ^ 5 = 100000000000000000000 := by decide
  generalize (10000 : Int) ^ 20 = M at *
  omega

set_option maxHeartbeats 1000000 in
theorem rmake_zero (n : Int) (w : World) :
    Calls Tryd.prog 20 #[.int .i64 n, .int .i64 0] w fun e w' => e = .returned (timeV (0, 0, 3)) ∧ Below w.heap.size w w' := by
  go_enter Tryd.func20, Tryd.ntmps20
  go_wp2
  exact bodyPost_ret (v := .tuple #[.agg #[.int .i64 0, .int .i64 0], .int .i64 3]) (by simp [results, Tryd.results20, go_sem]) rfl ⟨rfl, (by repeat (first | exact Below.refl _ _ | refine belowA ?_ _ | refine belowS ?_ (Nat.le_refl _) _))⟩

set_option maxHeartbeats 1000000 in
theorem rmake_below (n d : Int) (h : n < 0 ∧ 0 < d ∨ 0 < n ∧ d < 0) (w : World) :
    Calls Tryd.prog 20 #[.int .i64 n, .int .i64 d] w fun e w' => e = .returned (timeV (0, 0, 4)) ∧ Below w.heap.size w w' := by
  have hd : (d == 0) = false := by simp; omega
  rcases h with ⟨a, b⟩ | ⟨a, b⟩
  · have a' : ¬ 0 < n := by omega
    go_enter Tryd.func20, Tryd.ntmps20
    go_wp2
    exact bodyPost_ret (v := .tuple #[.agg #[.int .i64 0, .int .i64 0], .int .i64 4]) (by simp [results, Tryd.results20, go_sem]) rfl ⟨rfl, (by repeat (first | exact Below.refl _ _ | refine belowA ?_ _ | refine belowS ?_ (Nat.le_refl _) _))⟩
  · go_enter Tryd.func20, Tryd.ntmps20
    go_wp2
    exact bodyPost_ret (v := .tuple #[.agg #[.int .i64 0, .int .i64 0], .int .i64 4]) (by simp [results, Tryd.results20, go_sem]) rfl ⟨rfl, (by repeat (first | exact Below.refl _ _ | refine belowA ?_ _ | refine belowS ?_ (Nat.le_refl _) _))⟩

set_option maxHeartbeats 2000000 in
theorem rmake_pos (n d : Int) (hn : In64 n) (hd : In64 d) (h1 : ¬ d = 0) (h2 : ¬ (n < 0 ∧ 0 < d)) (h3 : ¬ (0 < n ∧ d < 0)) (tn td te : Int) (hT : madeS n.natAbs d.natAbs = (tn, td, te)) (w : World) :
    Calls Tryd.prog 20 #[.int .i64 n, .int .i64 d] w fun e w' => e = .returned (timeV (tn, td, te)) ∧ Below w.heap.size w w' := by
  have hdz : (d == 0) = false := by simpa using h1
  have KN := Lib.hid (plain_c n hn.1 hn.2)
  have KD := Lib.hid (plain_c d hd.1 hd.2)
  have LN := Lib.hid (lt_n hn)
  have LD := Lib.hid (lt_n hd)
  have D0 := Lib.hid (show (0 : Int) < d.natAbs by omega)
  have HT := Lib.hid hT
  clear hT h1
  by_cases hnn : n < 0
  · have hd1 : ¬ 0 < d := fun h => h2 ⟨hnn, h⟩
    have hn1 : ¬ 0 < n := by omega
    clear h2 h3
    go_enter Tryd.func20, Tryd.ntmps20
    go_wp2_with fail
    refine (KN.out _).mono ?_
    rintro e w1 ⟨⟨v1, rfl, q1⟩, hb1⟩
    have N1 := Lib.hid q1
    have Z1 : ZT w.heap.size w1 := ZT.keep ⟨by go_simp, by go_simp, by go_simp, by go_simp⟩ hb1
    have W1 := belowT (belowA (Below.refl _ w) _) hb1
    clear q1 hb1
    go_wp2_with fail
    refine (KD.out _).mono ?_
    rintro e w2 ⟨⟨v2, rfl, q2⟩, hb1⟩
    have N2 := Lib.hid (N1.out.keep hb1)
    have D2 := Lib.hid q2
    have Z2 := Z1.keep hb1
    have W2 := belowT W1 hb1
    clear q2 hb1 N1 Z1 W1
    go_wp2_with fail
    refine (made_c v1 v2 _ _ w2 N2.out D2.out LN.out D0.out LD.out).mono ?_
    rw [HT.out]
    rintro e w3 ⟨rfl, hb1⟩
    obtain ⟨c0, c1, f0, f1⟩ := Z2.keep hb1
    have W3 := belowT W2 hb1
    clear Z2 hb1 W2
    unfold timeV
    go_wp2
    exact bodyPost_ret (v := .tuple #[.agg #[.int .i64 tn, .int .i64 td], .int .i64 te]) (by simp [results, Tryd.results20, go_sem, c0, c1]) rfl ⟨rfl, (by repeat (first | assumption | refine belowS ?_ (Nat.le_refl _) _))⟩
  · by_cases hp : 0 < n
    · have hd1 : ¬ d < 0 := fun h => h3 ⟨hp, h⟩
      clear h2 h3
      go_enter Tryd.func20, Tryd.ntmps20
      go_wp2_with fail
      refine (KN.out _).mono ?_
      rintro e w1 ⟨⟨v1, rfl, q1⟩, hb1⟩
      have N1 := Lib.hid q1
      have Z1 : ZT w.heap.size w1 := ZT.keep ⟨by go_simp, by go_simp, by go_simp, by go_simp⟩ hb1
      have W1 := belowT (belowA (Below.refl _ w) _) hb1
      clear q1 hb1
      go_wp2_with fail
      refine (KD.out _).mono ?_
      rintro e w2 ⟨⟨v2, rfl, q2⟩, hb1⟩
      have N2 := Lib.hid (N1.out.keep hb1)
      have D2 := Lib.hid q2
      have Z2 := Z1.keep hb1
      have W2 := belowT W1 hb1
      clear q2 hb1 N1 Z1 W1
      go_wp2_with fail
      refine (made_c v1 v2 _ _ w2 N2.out D2.out LN.out D0.out LD.out).mono ?_
      rw [HT.out]
      rintro e w3 ⟨rfl, hb1⟩
      obtain ⟨c0, c1, f0, f1⟩ := Z2.keep hb1
      have W3 := belowT W2 hb1
      clear Z2 hb1 W2
      unfold timeV
      go_wp2
      exact bodyPost_ret (v := .tuple #[.agg #[.int .i64 tn, .int .i64 td], .int .i64 te]) (by simp [results, Tryd.results20, go_sem, c0, c1]) rfl ⟨rfl, (by repeat (first | assumption | refine belowS ?_ (Nat.le_refl _) _))⟩
    · clear h2 h3
      go_enter Tryd.func20, Tryd.ntmps20
      go_wp2_with fail
      refine (KN.out _).mono ?_
      rintro e w1 ⟨⟨v1, rfl, q1⟩, hb1⟩
      have N1 := Lib.hid q1
      have Z1 : ZT w.heap.size w1 := ZT.keep ⟨by go_simp, by go_simp, by go_simp, by go_simp⟩ hb1
      have W1 := belowT (belowA (Below.refl _ w) _) hb1
      clear q1 hb1
      go_wp2_with fail
      refine (KD.out _).mono ?_
      rintro e w2 ⟨⟨v2, rfl, q2⟩, hb1⟩
      have N2 := Lib.hid (N1.out.keep hb1)
      have D2 := Lib.hid q2
      have Z2 := Z1.keep hb1
      have W2 := belowT W1 hb1
      clear q2 hb1 N1 Z1 W1
      go_wp2_with fail
      refine (made_c v1 v2 _ _ w2 N2.out D2.out LN.out D0.out LD.out).mono ?_
      rw [HT.out]
      rintro e w3 ⟨rfl, hb1⟩
      obtain ⟨c0, c1, f0, f1⟩ := Z2.keep hb1
      have W3 := belowT W2 hb1
      clear Z2 hb1 W2
      unfold timeV
      go_wp2
      exact bodyPost_ret (v := .tuple #[.agg #[.int .i64 tn, .int .i64 td], .int .i64 te]) (by simp [results, Tryd.results20, go_sem, c0, c1]) rfl ⟨rfl, (by repeat (first | assumption | refine belowS ?_ (Nat.le_refl _) _))⟩

theorem rmake_c (n d : Int) (hn : In64 n) (hd : In64 d) (w : World) :
    Calls Tryd.prog 20 #[.int .i64 n, .int .i64 d] w fun e w' => e = .returned (timeV (makeS n d)) ∧ Below w.heap.size w w' := by
  by_cases h : d = 0
  · subst h
    have e : makeS n 0 = (0, 0, 3) := by unfold makeS; rw [if_pos rfl]
    rw [e]
    exact rmake_zero n w
  · by_cases h2 : n < 0 ∧ 0 < d ∨ 0 < n ∧ d < 0
    · have e : makeS n d = (0, 0, 4) := by unfold makeS; rw [if_neg h, if_pos h2]
      rw [e]
      exact rmake_below n d h2 w
    · have e : makeS n d = madeS n.natAbs d.natAbs := by unfold makeS madeS; rw [if_neg h, if_neg h2]
      rw [e]
      exact rmake_pos n d hn hd h (fun k => h2 (.inl k)) (fun k => h2 (.inr k)) _ _ _ rfl w
end Go.Proofs.YthdadpafankbfaaDoor
