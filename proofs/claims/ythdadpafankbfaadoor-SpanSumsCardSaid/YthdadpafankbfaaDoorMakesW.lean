/-
  The contract of the law SpanMakes over this seat's translation: whatever two numbers it is handed, it answers true. Conditions: the numbers are ints.
-/
import Derived.Test.YthdadpafankbfaaDoorSpanG
import Derived.Test.YthdadpafankbfaaDoorRefP
namespace Go.Proofs.YthdadpafankbfaaDoor
open Go.RowKit
attribute [local go_sem ↓] Go.wp_at_zero Go.wp_at_succ

theorem makeS_in (n d tn td te : Int) (h : makeS n d = (tn, td, te)) : In64 tn ∧ In64 td := by
  unfold makeS at h
  have a0 : 0 ≤ (n.natAbs : Int) / (Int.gcd n.natAbs d.natAbs : Int) := Int.ediv_nonneg (by omega) (by omega)
  have b0 : 0 ≤ (d.natAbs : Int) / (Int.gcd n.natAbs d.natAbs : Int) := Int.ediv_nonneg (by omega) (by omega)
  unfold fitT at h
  unfold In64
  generalize (n.natAbs : Int) / (Int.gcd n.natAbs d.natAbs : Int) = a at *
  generalize (d.natAbs : Int) / (Int.gcd n.natAbs d.natAbs : Int) = b at *
  (repeat' split at h) <;> (simp only [Prod.mk.injEq] at h; omega)

theorem gcd_div (x y : Nat) (hy : 0 < y) : Int.gcd ((x : Int) / (Int.gcd x y : Int)) ((y : Int) / (Int.gcd x y : Int)) = 1 := by
  have e : Int.gcd (x : Int) (y : Int) = Nat.gcd x y := Int.gcd_natCast_natCast x y
  rw [e]
  have e1 : (x : Int) / (Nat.gcd x y : Int) = ((x / Nat.gcd x y : Nat) : Int) := by simp
  have e2 : (y : Int) / (Nat.gcd x y : Int) = ((y / Nat.gcd x y : Nat) : Int) := by simp
  rw [e1, e2, Int.gcd_natCast_natCast]
  exact Nat.gcd_div_gcd_div_gcd_of_pos_right hy

theorem makeS_ok (n d tn td : Int) (h : makeS n d = (tn, td, 0)) : rightB tn td = true := by
  by_cases hd : d = 0
  · subst hd
    unfold makeS at h
    rw [if_pos rfl] at h
    simp at h
  · have hy : 0 < d.natAbs := by omega
    have hg := gcd_div n.natAbs d.natAbs hy
    have hgp : 0 < (Int.gcd n.natAbs d.natAbs : Int) := by
      have : 0 < Int.gcd n.natAbs d.natAbs := Int.gcd_pos_of_ne_zero_right _ (by omega)
      omega
    have hle : (Int.gcd n.natAbs d.natAbs : Int) ≤ (d.natAbs : Int) := Int.le_of_dvd (by omega) (Int.gcd_dvd_right ..)
    have a0 : 0 ≤ (n.natAbs : Int) / (Int.gcd n.natAbs d.natAbs : Int) := Int.ediv_nonneg (by omega) (by omega)
    have b0 : 0 < (d.natAbs : Int) / (Int.gcd n.natAbs d.natAbs : Int) := Int.ediv_pos_of_pos_of_dvd (by omega) (by omega) (Int.gcd_dvd_right ..)
    unfold makeS fitT at h
    generalize (n.natAbs : Int) / (Int.gcd n.natAbs d.natAbs : Int) = a at *
    generalize (d.natAbs : Int) / (Int.gcd n.natAbs d.natAbs : Int) = b at *
    have hp : tn = a ∧ td = b := by
      (repeat' split at h) <;> (simp only [Prod.mk.injEq] at h; omega)
    obtain ⟨rfl, rfl⟩ := hp
    unfold rightB plainR
    simp [a0, b0, hg]

/-- What a law's frame holds of a time at block g. -/
def At2 (g : Nat) (a b : Int) (w : World) : Prop := w.cell? ⟨g, 0, none⟩ = some (.int .i64 a) ∧ w.cell? ⟨g, 1, none⟩ = some (.int .i64 b)
theorem At2.keep {g : Nat} {a b : Int} {w w' : World} (h : At2 g a b w) (hb : Below w.heap.size w w') : At2 g a b w' := ⟨keepc hb h.1, keepc hb h.2⟩

set_option maxHeartbeats 2000000 in
theorem makes_w (n d tn td te un ud ue : Int) (htd : In64 tn ∧ In64 td) (hr : te = 0 → rightB tn td = true)
    (k1 : ∀ w : World, Calls Tryd.prog 19 #[.int .i64 n, .int .i64 d] w fun e w' => e = .returned (.tuple #[.agg #[.int .i64 tn, .int .i64 td], .int .i64 te]) ∧ Below w.heap.size w w')
    (k2 : ∀ w : World, Calls Tryd.prog 20 #[.int .i64 n, .int .i64 d] w fun e w' => e = .returned (.tuple #[.agg #[.int .i64 tn, .int .i64 td], .int .i64 te]) ∧ Below w.heap.size w w')
    (k3 : ∀ w : World, Calls Tryd.prog 21 #[.int .i64 n] w fun e w' => e = .returned (.tuple #[.agg #[.int .i64 un, .int .i64 ud], .int .i64 ue]) ∧ Below w.heap.size w w')
    (k4 : ∀ w : World, Calls Tryd.prog 20 #[.int .i64 n, .int .i64 1] w fun e w' => e = .returned (.tuple #[.agg #[.int .i64 un, .int .i64 ud], .int .i64 ue]) ∧ Below w.heap.size w w') (w : World) :
    Calls Tryd.prog 5 #[.int .i64 n, .int .i64 d] w fun e w' => e = .returned (.bool true) ∧ Below w.heap.size w w' := by
  have K1 := Lib.hid k1
  have K2 := Lib.hid k2
  have K3 := Lib.hid k3
  have K4 := Lib.hid k4
  have KR := Lib.hid (right_c tn td htd.1 htd.2)
  have HR := Lib.hid hr
  clear k1 k2 k3 k4 htd hr
  go_enter Tryd.func5, Tryd.ntmps5
  go_wp2_with fail
  refine (K1.out _).mono ?_
  rintro e w1 ⟨rfl, hw⟩
  go_wp2_with fail
  refine (K2.out _).mono ?_
  rintro e w2 ⟨rfl, hb⟩
  have T2 : At2 w1.heap.size tn td w2 := At2.keep ⟨by go_simp, by go_simp⟩ hb
  have W2 := belowT (belowA hw _) hb
  clear hb hw
  go_wp2_with fail
  refine (K3.out _).mono ?_
  rintro e w3 ⟨rfl, hb⟩
  have M3 : At2 w2.heap.size tn td w3 := At2.keep ⟨by go_simp, by go_simp⟩ hb
  have T3 := T2.keep (belowT (belowA (Below.refl _ _) _) hb)
  have W3 := belowT (belowA W2 _) hb
  clear hb T2 W2
  go_wp2_with fail
  refine (K4.out _).mono ?_
  rintro e w4 ⟨rfl, hb⟩
  have U4 : At2 w3.heap.size un ud w4 := At2.keep ⟨by go_simp, by go_simp⟩ hb
  have T4 := T3.keep (belowT (belowA (Below.refl _ _) _) hb)
  have M4 := M3.keep (belowT (belowA (Below.refl _ _) _) hb)
  have W4 := belowT (belowA W3 _) hb
  clear hb T3 M3 W3
  go_wp2_with fail
  refine (awake_c _).mono ?_
  rintro e w5 ⟨rfl, hb⟩
  have V5 : At2 w4.heap.size un ud w5 := At2.keep ⟨by go_simp, by go_simp⟩ hb
  have T5 := T4.keep (belowT (belowA (Below.refl _ _) _) hb)
  have M5 := M4.keep (belowT (belowA (Below.refl _ _) _) hb)
  have U5 := U4.keep (belowT (belowA (Below.refl _ _) _) hb)
  have W5 := belowT (belowA W4 _) hb
  clear hb T4 M4 U4 W4
  obtain ⟨t0, t1⟩ := T5
  obtain ⟨m0, m1⟩ := M5
  obtain ⟨u0, u1⟩ := U5
  obtain ⟨v0, v1⟩ := V5
  by_cases he : te = 0
  · have HT := Lib.hid (HR.out he)
    subst he
    go_wp2_with fail
    refine (KR.out _).mono ?_
    rw [HT.out]
    rintro e w6 ⟨rfl, hb⟩
    go_wp2
    go_ret
    exact ⟨rfl, belowT W5 hb⟩
  · have hz : (te == 0) = false := by simpa using he
    go_wp2
    go_ret
    exact ⟨rfl, W5⟩

theorem makes_c (n d : Int) (hn : In64 n) (hd : In64 d) (w : World) :
    Calls Tryd.prog 5 #[.int .i64 n, .int .i64 d] w fun e w' => e = .returned (.bool true) ∧ Below w.heap.size w w' := by
  have k1 := make_c n d hn hd
  have k2 := rmake_c n d hn hd
  have k3 := whole_c n hn
  have k4 := rmake_c n 1 hn (by unfold In64; omega)
  obtain ⟨tn, td, te, hx⟩ : ∃ a b c, makeS n d = (a, b, c) := ⟨_, _, _, rfl⟩
  obtain ⟨un, ud, ue, hy⟩ : ∃ a b c, makeS n 1 = (a, b, c) := ⟨_, _, _, rfl⟩
  rw [hx] at k1 k2
  rw [hy] at k3 k4
  exact makes_w n d tn td te un ud ue (makeS_in n d tn td te hx) (fun h => makeS_ok n d tn td (h ▸ hx)) k1 k2 k3 k4 w
end Go.Proofs.YthdadpafankbfaaDoor
