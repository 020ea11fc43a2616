/-
  Several texts in one: RefL RefNa RefNb RefP MakesW RefN RefQ RefR RefS.
-/
import Derived.Test.YtibphmddepfgjaaMB
import Derived.Test.YtibphmddepfgjaaMA
import Derived.Deep.RegionHeld3
import Derived.BigQuiet
import Derived.Test.YtibphmddepfgjaaMD

/-
  The contracts of the given package gavotteref01's made and Make over this seat's translation. Conditions: those that each theorem states.
-/
namespace Go.Proofs.Ytibphmddepfgjaa
open Go.RowKit
attribute [local go_sem ↓] Go.wp_at_zero Go.wp_at_succ

/-- A time of noughts that the call made, at block g. -/
structure ZT (g : Nat) (w : World) : Prop where
  c0 : w.cell? ⟨g, 0, none⟩ = some (.int .i64 0)
  c1 : w.cell? ⟨g, 1, none⟩ = some (.int .i64 0)
  f0 : w.frozen? ⟨g, 0, none⟩ = false
  f1 : w.frozen? ⟨g, 1, none⟩ = false
theorem ZT.keep {g : Nat} {w w' : World} (h : ZT g w) (hb : Below w.heap.size w w') : ZT g w' :=
  ⟨keepc hb h.c0, keepc hb h.c1, keepf hb h.c0 h.f0, keepf hb h.c1 h.f1⟩

def madeS (A B : Int) : Int × Int × Int := fitT 0 (A / (Int.gcd A B : Int)) 0 (B / (Int.gcd A B : Int))

theorem sgn_pos {x y : Int} (h : y < x) : 0 < sgn x y := by rw [sgn_gt h]; omega
theorem sgn_npos {x y : Int} (h : ¬ y < x) : ¬ 0 < sgn x y := by unfold sgn; (repeat' split) <;> omega

end Go.Proofs.Ytibphmddepfgjaa

/-
  The contract of the given package gavotteref01's Never over this seat's translation, and bounds. Conditions: those that each theorem states.
-/
namespace Go.Proofs.Ytibphmddepfgjaa
open Go.RowKit
attribute [local go_sem ↓] Go.wp_at_zero Go.wp_at_succ

theorem rnever_yes (w : World) :
    Calls Try.prog 34 #[.agg #[.int .i64 1, .int .i64 0]] w fun e w' => e = .returned (.bool true) ∧ Below w.heap.size w w' := by
  go_enter Try.func34, Try.ntmps34
  go_wp2
  go_ret
  exact ⟨rfl, belowA (Below.refl _ _) _⟩

theorem rnever_no (n d : Int) (h : ¬ isNever n d) (w : World) :
    Calls Try.prog 34 #[.agg #[.int .i64 n, .int .i64 d]] w fun e w' => e = .returned (.bool false) ∧ Below w.heap.size w w' := by
  by_cases hn : n = 1
  · subst hn
    have hd : (d == 0) = false := by
      unfold isNever at h
      simpa using h
    clear h
    go_enter Try.func34, Try.ntmps34
    go_wp2
    go_ret
    exact ⟨rfl, belowA (Below.refl _ _) _⟩
  · have hd : (n == 1) = false := by simpa using hn
    clear h
    go_enter Try.func34, Try.ntmps34
    go_wp2
    go_ret
    exact ⟨rfl, belowA (Below.refl _ _) _⟩

theorem right_dn (n d : Int) (h : ¬ isNever n d) (hd : ¬ 0 < d ∨ ¬ 0 ≤ n) : rightB n d = false := by
  rcases hd with hd | hd
  · exact right_d n d h hd
  · exact right_n n d h hd

theorem lt_i {n : Int} (h : n ≤ 9223372036854775807) : n < 10000 ^ 20 := by
  have h1 := pow_mono 5 20 (by omega)
  have h2 : (10000 : Int) ^ 5 = 100000000000000000000 := by decide
  generalize (10000 : Int) ^ 20 = M at *
  omega
theorem gcd_i {n d : Int} (hd : 0 < d) (h : d ≤ 9223372036854775807) : (Int.gcd n d : Int) < 10000 ^ 100 := by
  have h1 : (Int.gcd n d : Int) ≤ d := Int.le_of_dvd hd (Int.gcd_dvd_right ..)
  exact lt_b (lt_i (Int.le_trans h1 h))
theorem NumIs.drew {w : World} {v : Value} {N : Int} (h : NumIs w v N) : NumIs w.drew v N := h
theorem NumIs.alloc {w : World} {v : Value} {N : Int} (h : NumIs w v N) (o : Obj) : NumIs (w.alloc o) v N := h.keep (belowA (Below.refl _ _) _)

end Go.Proofs.Ytibphmddepfgjaa

/-
  The contract of the given package gavotteref01's Right over this seat's translation, where it reckons. Conditions: those that the theorem states.
-/
namespace Go.Proofs.Ytibphmddepfgjaa
open Go.RowKit
attribute [local go_sem ↓] Go.wp_at_zero Go.wp_at_succ

theorem sgn_one (g : Int) : (sgn g 1 == 0) = (g == 1) := by
  rw [Bool.eq_iff_iff]
  simp only [beq_iff_eq]
  unfold sgn
  (repeat' split) <;> omega

set_option maxHeartbeats 40000000 in
theorem rright_yes (n d : Int) (hn : In64 n) (hd : In64 d) (h : ¬ isNever n d) (hdp : 0 < d) (hnp : 0 ≤ n) (w : World) :
    Calls Try.prog 33 #[.agg #[.int .i64 n, .int .i64 d]] w fun e w' => e = .returned (.bool (rightB n d)) ∧ Below w.heap.size w w' := by
  have hrg := right_g n d h hdp hnp
  have Hrg := Lib.hid hrg
  have K := Lib.hid (rnever_no n d h)
  obtain ⟨hn1, hn2⟩ := hn
  obtain ⟨hd1, hd2⟩ := hd
  have Gn := Lib.hid (lt_i hn2)
  have Gd := Lib.hid (lt_i hd2)
  have Gg := Lib.hid (gcd_i (n := n) hdp hd2)
  clear h hrg
  go_enter Try.func33, Try.ntmps33
  go_wp2_with fail
  refine (K.out _).mono ?_
  rintro e w1 ⟨rfl, hb⟩
  have c0 := keepc hb (p := ⟨w.heap.size, 0, none⟩) (v := .int .i64 n) (by go_simp)
  have c1 := keepc hb (p := ⟨w.heap.size, 1, none⟩) (v := .int .i64 d) (by go_simp)
  have W1 := belowT (belowA (Below.refl _ w) _) hb
  clear hb
  go_wp2_with fail
  go_region_held3 (fun w' => w'.cell? ⟨w.heap.size, 0, none⟩ = some (.int .i64 n) ∧ w'.cell? ⟨w.heap.size, 1, none⟩ = some (.int .i64 d))
    (first | exact ⟨c0, c1⟩ | (go_split_ands; exact ⟨keepc hb (by assumption), keepc hb (by assumption)⟩) | (go_split_ands; exact ⟨keepc (belowA (Below.refl _ _) _) (by assumption), keepc (belowA (Below.refl _ _) _) (by assumption)⟩) | go_keep)
    (first
      | (go_at_call 48; refine (from_c _ (by omega) (by omega) _).mono ?_; rintro e w2 ⟨⟨v2, rfl, nv⟩, hb⟩)
      | (go_at_call 47; refine (ngcd_c _ _ n d _ ?_ ?_ Gn.out Gd.out).mono ?_; (focus (with_reducible (repeat (first | assumption | exact num_one _ | refine NumIs.drew ?_ | refine NumIs.alloc ?_ _ | refine NumIs.keep ?_ (by assumption))); done)); (focus (with_reducible (repeat (first | assumption | exact num_one _ | refine NumIs.drew ?_ | refine NumIs.alloc ?_ _ | refine NumIs.keep ?_ (by assumption))); done)); rintro e w2 ⟨⟨v2, rfl, nv⟩, hb⟩)
      | (go_at_call 49; refine (numcmp_c _ _ (Int.gcd n d) 1 _ ?_ ?_ Gg.out).mono ?_; (focus (with_reducible (repeat (first | assumption | exact num_one _ | refine NumIs.drew ?_ | refine NumIs.alloc ?_ _ | refine NumIs.keep ?_ (by assumption))); done)); (focus (with_reducible (repeat (first | assumption | exact num_one _ | refine NumIs.drew ?_ | refine NumIs.alloc ?_ _ | refine NumIs.keep ?_ (by assumption))); done)); rintro e w2 ⟨rfl, hb⟩))
  all_goals go_wp2
  all_goals go_ret
  all_goals exact ⟨ret_bool (by rw [Hrg.out, sgn_one]), (by repeat (first | with_reducible assumption | with_reducible exact Below.refl _ _ | with_reducible refine belowN ?_ _ | with_reducible refine Below.drew ?_ | with_reducible refine belowA ?_ _ | with_reducible refine belowT ?_ (by assumption)))⟩
end Go.Proofs.Ytibphmddepfgjaa

/-
  The contract of the given package gavotteref01's Make over this seat's translation. Conditions: those that each theorem states.
-/
namespace Go.Proofs.Ytibphmddepfgjaa
open Go.RowKit
attribute [local go_sem ↓] Go.wp_at_zero Go.wp_at_succ

theorem lt_n {n : Int} (h : In64 n) : (n.natAbs : Int) < 10000 ^ 20 := by
  unfold In64 at h
  have h1 := pow_mono 5 20 (by omega)
  have h2 : (10000 : Int) ^ 5 = 100000000000000000000 := by decide
  generalize (10000 : Int) ^ 20 = M at *
  omega

end Go.Proofs.Ytibphmddepfgjaa

/-
  The contract of the law SpanMakes over this seat's translation: whatever two numbers it is handed, it answers true. Conditions: the numbers are ints.
-/
namespace Go.Proofs.Ytibphmddepfgjaa
open Go.RowKit
attribute [local go_sem ↓] Go.wp_at_zero Go.wp_at_succ

theorem makeS_in (n d tn td te : Int) (h : makeS n d = (tn, td, te)) : In64 tn ∧ In64 td := by
  unfold makeS at h
  have a0 : 0 ≤ (n.natAbs : Int) / (Int.gcd n.natAbs d.natAbs : Int) := Int.ediv_nonneg (by omega) (by omega)
  have b0 : 0 ≤ (d.natAbs : Int) / (Int.gcd n.natAbs d.natAbs : Int) := Int.ediv_nonneg (by omega) (by omega)
  unfold fitT at h
  unfold In64
  generalize (n.natAbs : Int) / (Int.gcd n.natAbs d.natAbs : Int) = a at *
  generalize (d.natAbs : Int) / (Int.gcd n.natAbs d.natAbs : Int) = b at *
  (repeat' split at h) <;> (simp only [Prod.mk.injEq] at h; omega)

theorem gcd_div (x y : Nat) (hy : 0 < y) : Int.gcd ((x : Int) / (Int.gcd x y : Int)) ((y : Int) / (Int.gcd x y : Int)) = 1 := by
  have e : Int.gcd (x : Int) (y : Int) = Nat.gcd x y := Int.gcd_natCast_natCast x y
  rw [e]
  have e1 : (x : Int) / (Nat.gcd x y : Int) = ((x / Nat.gcd x y : Nat) : Int) := by simp
  have e2 : (y : Int) / (Nat.gcd x y : Int) = ((y / Nat.gcd x y : Nat) : Int) := by simp
  rw [e1, e2, Int.gcd_natCast_natCast]
  exact Nat.gcd_div_gcd_div_gcd_of_pos_right hy

theorem makeS_ok (n d tn td : Int) (h : makeS n d = (tn, td, 0)) : rightB tn td = true := by
  by_cases hd : d = 0
  · subst hd
    unfold makeS at h
    rw [if_pos rfl] at h
    simp at h
  · have hy : 0 < d.natAbs := by omega
    have hg := gcd_div n.natAbs d.natAbs hy
    have hgp : 0 < (Int.gcd n.natAbs d.natAbs : Int) := by
      have : 0 < Int.gcd n.natAbs d.natAbs := Int.gcd_pos_of_ne_zero_right _ (by omega)
      omega
    have hle : (Int.gcd n.natAbs d.natAbs : Int) ≤ (d.natAbs : Int) := Int.le_of_dvd (by omega) (Int.gcd_dvd_right ..)
    have a0 : 0 ≤ (n.natAbs : Int) / (Int.gcd n.natAbs d.natAbs : Int) := Int.ediv_nonneg (by omega) (by omega)
    have b0 : 0 < (d.natAbs : Int) / (Int.gcd n.natAbs d.natAbs : Int) := Int.ediv_pos_of_pos_of_dvd (by omega) (by omega) (Int.gcd_dvd_right ..)
    unfold makeS fitT at h
    generalize (n.natAbs : Int) / (Int.gcd n.natAbs d.natAbs : Int) = a at *
    generalize (d.natAbs : Int) / (Int.gcd n.natAbs d.natAbs : Int) = b at *
    have hp : tn = a ∧ td = b := by
      (repeat' split at h) <;> (simp only [Prod.mk.injEq] at h; omega)
    obtain ⟨rfl, rfl⟩ := hp
    unfold rightB plainR
    simp [a0, b0, hg]

/-- What a law's frame holds of a time at block g. -/
def At2 (g : Nat) (a b : Int) (w : World) : Prop := w.cell? ⟨g, 0, none⟩ = some (.int .i64 a) ∧ w.cell? ⟨g, 1, none⟩ = some (.int .i64 b)
theorem At2.keep {g : Nat} {a b : Int} {w w' : World} (h : At2 g a b w) (hb : Below w.heap.size w w') : At2 g a b w' := ⟨keepc hb h.1, keepc hb h.2⟩

end Go.Proofs.Ytibphmddepfgjaa

/-
  The contract of the given package gavotteref01's Right over this seat's translation, where it does not reckon. Conditions: those that the theorem states.
-/
namespace Go.Proofs.Ytibphmddepfgjaa
open Go.RowKit
attribute [local go_sem ↓] Go.wp_at_zero Go.wp_at_succ

theorem rright_never (w : World) :
    Calls Try.prog 33 #[.agg #[.int .i64 1, .int .i64 0]] w fun e w' => e = .returned (.bool true) ∧ Below w.heap.size w w' := by
  go_enter Try.func33, Try.ntmps33
  go_wp2_with fail
  refine (rnever_yes _).mono ?_
  rintro e w1 ⟨rfl, hb⟩
  go_wp2
  go_ret
  exact ⟨rfl, belowT (belowA (Below.refl _ _) _) hb⟩

set_option maxHeartbeats 2000000 in
theorem rright_no (n d : Int) (hn : In64 n) (hd : In64 d) (h : ¬ isNever n d) (hdn : ¬ 0 < d ∨ ¬ 0 ≤ n) (w : World) :
    Calls Try.prog 33 #[.agg #[.int .i64 n, .int .i64 d]] w fun e w' => e = .returned (.bool (rightB n d)) ∧ Below w.heap.size w w' := by
  rw [right_dn n d h hdn]
  have K := Lib.hid (rnever_no n d h)
  obtain ⟨hn1, hn2⟩ := hn
  obtain ⟨hd1, hd2⟩ := hd
  clear h
  by_cases hdp : 0 < d
  · have hnp : decide (0 ≤ n) = false := by simp; omega
    clear hdn
    go_enter Try.func33, Try.ntmps33
    go_wp2_with fail
    refine (K.out _).mono ?_
    rintro e w1 ⟨rfl, hb⟩
    have c0 := keepc hb (p := ⟨w.heap.size, 0, none⟩) (v := .int .i64 n) (by go_simp)
    have c1 := keepc hb (p := ⟨w.heap.size, 1, none⟩) (v := .int .i64 d) (by go_simp)
    have W1 := belowT (belowA (Below.refl _ w) _) hb
    clear hb
    go_wp2_with fail
    go_quiet (fail)
    go_wp2
    go_ret
    exact ⟨rfl, (by repeat (first | assumption | exact Below.refl _ _ | refine belowN ?_ _ | refine Below.drew ?_ | refine belowA ?_ _ | refine belowT ?_ (by assumption)))⟩
  · have hdz : decide (0 < d) = false := by simp; omega
    clear hdn
    go_enter Try.func33, Try.ntmps33
    go_wp2_with fail
    refine (K.out _).mono ?_
    rintro e w1 ⟨rfl, hb⟩
    have c0 := keepc hb (p := ⟨w.heap.size, 0, none⟩) (v := .int .i64 n) (by go_simp)
    have c1 := keepc hb (p := ⟨w.heap.size, 1, none⟩) (v := .int .i64 d) (by go_simp)
    have W1 := belowT (belowA (Below.refl _ w) _) hb
    clear hb
    go_wp2_with fail
    go_quiet (fail)
    go_wp2
    go_ret
    exact ⟨rfl, (by repeat (first | assumption | exact Below.refl _ _ | refine belowN ?_ _ | refine Below.drew ?_ | refine belowA ?_ _ | refine belowT ?_ (by assumption)))⟩

end Go.Proofs.Ytibphmddepfgjaa

/-
  The contract of the given package gavotteref01's Cmp over this seat's translation, where nothing is reckoned. Conditions: those that each theorem states.
-/
namespace Go.Proofs.Ytibphmddepfgjaa
open Go.RowKit
attribute [local go_sem ↓] Go.wp_at_zero Go.wp_at_succ

set_option maxHeartbeats 4000000 in
theorem rcmp_nota (an ad bn bd : Int)
    (kra : ∀ w : World, Calls Try.prog 33 #[.agg #[.int .i64 an, .int .i64 ad]] w fun e w' => e = .returned (.bool false) ∧ Below w.heap.size w w') (w : World) :
    Calls Try.prog 46 #[.agg #[.int .i64 an, .int .i64 ad], .agg #[.int .i64 bn, .int .i64 bd]] w fun e w' => e = .returned (.int .i64 (0)) ∧ Below w.heap.size w w' := by
  have KRA := Lib.hid kra
  clear kra
  go_enter Try.func46, Try.ntmps46
  go_wp2_with fail
  refine (KRA.out _).mono ?_
  rintro e w1 ⟨rfl, hb⟩
  have FA : At2 w.heap.size an ad w1 := At2.keep ⟨by go_simp, by go_simp⟩ hb
  have FB : At2 (w.heap.size + 1) bn bd w1 := At2.keep ⟨by go_simp, by go_simp⟩ hb
  have WB := belowT (belowA (belowA (Below.refl _ w) _) _) hb
  clear hb
  have FA2 := FA
  have FB2 := FB
  obtain ⟨c0, c1⟩ := FA2
  obtain ⟨c2, c3⟩ := FB2
  go_wp2
  go_ret
  exact ⟨rfl, WB⟩

set_option maxHeartbeats 4000000 in
theorem rcmp_notb (an ad bn bd : Int)
    (kra : ∀ w : World, Calls Try.prog 33 #[.agg #[.int .i64 an, .int .i64 ad]] w fun e w' => e = .returned (.bool true) ∧ Below w.heap.size w w')
    (krb : ∀ w : World, Calls Try.prog 33 #[.agg #[.int .i64 bn, .int .i64 bd]] w fun e w' => e = .returned (.bool false) ∧ Below w.heap.size w w') (w : World) :
    Calls Try.prog 46 #[.agg #[.int .i64 an, .int .i64 ad], .agg #[.int .i64 bn, .int .i64 bd]] w fun e w' => e = .returned (.int .i64 (0)) ∧ Below w.heap.size w w' := by
  have KRA := Lib.hid kra
  clear kra
  have KRB := Lib.hid krb
  clear krb
  go_enter Try.func46, Try.ntmps46
  go_wp2_with fail
  refine (KRA.out _).mono ?_
  rintro e w1 ⟨rfl, hb⟩
  have FA : At2 w.heap.size an ad w1 := At2.keep ⟨by go_simp, by go_simp⟩ hb
  have FB : At2 (w.heap.size + 1) bn bd w1 := At2.keep ⟨by go_simp, by go_simp⟩ hb
  have WB := belowT (belowA (belowA (Below.refl _ w) _) _) hb
  clear hb
  have FA2 := FA
  have FB2 := FB
  obtain ⟨c0, c1⟩ := FA2
  obtain ⟨c2, c3⟩ := FB2
  go_wp2_with fail
  refine (KRB.out _).mono ?_
  rintro e w2 ⟨rfl, hb⟩
  replace FA := FA.keep hb
  replace FB := FB.keep hb
  replace WB := belowT WB hb
  clear hb c0 c1 c2 c3
  have FA2 := FA
  have FB2 := FB
  obtain ⟨c0, c1⟩ := FA2
  obtain ⟨c2, c3⟩ := FB2
  go_wp2
  go_ret
  exact ⟨rfl, WB⟩

set_option maxHeartbeats 4000000 in
theorem rcmp_same (an ad : Int)
    (kra : ∀ w : World, Calls Try.prog 33 #[.agg #[.int .i64 an, .int .i64 ad]] w fun e w' => e = .returned (.bool true) ∧ Below w.heap.size w w')
    (krb : ∀ w : World, Calls Try.prog 33 #[.agg #[.int .i64 an, .int .i64 ad]] w fun e w' => e = .returned (.bool true) ∧ Below w.heap.size w w') (w : World) :
    Calls Try.prog 46 #[.agg #[.int .i64 an, .int .i64 ad], .agg #[.int .i64 an, .int .i64 ad]] w fun e w' => e = .returned (.int .i64 (0)) ∧ Below w.heap.size w w' := by
  have KRA := Lib.hid kra
  clear kra
  have KRB := Lib.hid krb
  clear krb
  go_enter Try.func46, Try.ntmps46
  go_wp2_with fail
  refine (KRA.out _).mono ?_
  rintro e w1 ⟨rfl, hb⟩
  have FA : At2 w.heap.size an ad w1 := At2.keep ⟨by go_simp, by go_simp⟩ hb
  have FB : At2 (w.heap.size + 1) an ad w1 := At2.keep ⟨by go_simp, by go_simp⟩ hb
  have WB := belowT (belowA (belowA (Below.refl _ w) _) _) hb
  clear hb
  have FA2 := FA
  have FB2 := FB
  obtain ⟨c0, c1⟩ := FA2
  obtain ⟨c2, c3⟩ := FB2
  go_wp2_with fail
  refine (KRB.out _).mono ?_
  rintro e w2 ⟨rfl, hb⟩
  replace FA := FA.keep hb
  replace FB := FB.keep hb
  replace WB := belowT WB hb
  clear hb c0 c1 c2 c3
  have FA2 := FA
  have FB2 := FB
  obtain ⟨c0, c1⟩ := FA2
  obtain ⟨c2, c3⟩ := FB2
  go_wp2
  go_ret
  exact ⟨rfl, WB⟩

set_option maxHeartbeats 4000000 in
theorem rcmp_na1 (an ad bn bd : Int) (hne : (an == bn) = false)
    (kra : ∀ w : World, Calls Try.prog 33 #[.agg #[.int .i64 an, .int .i64 ad]] w fun e w' => e = .returned (.bool true) ∧ Below w.heap.size w w')
    (krb : ∀ w : World, Calls Try.prog 33 #[.agg #[.int .i64 bn, .int .i64 bd]] w fun e w' => e = .returned (.bool true) ∧ Below w.heap.size w w')
    (kna : ∀ w : World, Calls Try.prog 34 #[.agg #[.int .i64 an, .int .i64 ad]] w fun e w' => e = .returned (.bool true) ∧ Below w.heap.size w w') (w : World) :
    Calls Try.prog 46 #[.agg #[.int .i64 an, .int .i64 ad], .agg #[.int .i64 bn, .int .i64 bd]] w fun e w' => e = .returned (.int .i64 (1)) ∧ Below w.heap.size w w' := by
  have KRA := Lib.hid kra
  clear kra
  have KRB := Lib.hid krb
  clear krb
  have KNA := Lib.hid kna
  clear kna
  go_enter Try.func46, Try.ntmps46
  go_wp2_with fail
  refine (KRA.out _).mono ?_
  rintro e w1 ⟨rfl, hb⟩
  have FA : At2 w.heap.size an ad w1 := At2.keep ⟨by go_simp, by go_simp⟩ hb
  have FB : At2 (w.heap.size + 1) bn bd w1 := At2.keep ⟨by go_simp, by go_simp⟩ hb
  have WB := belowT (belowA (belowA (Below.refl _ w) _) _) hb
  clear hb
  have FA2 := FA
  have FB2 := FB
  obtain ⟨c0, c1⟩ := FA2
  obtain ⟨c2, c3⟩ := FB2
  go_wp2_with fail
  refine (KRB.out _).mono ?_
  rintro e w2 ⟨rfl, hb⟩
  replace FA := FA.keep hb
  replace FB := FB.keep hb
  replace WB := belowT WB hb
  clear hb c0 c1 c2 c3
  have FA2 := FA
  have FB2 := FB
  obtain ⟨c0, c1⟩ := FA2
  obtain ⟨c2, c3⟩ := FB2
  go_wp2_with fail
  refine (KNA.out _).mono ?_
  rintro e w3 ⟨rfl, hb⟩
  replace FA := FA.keep hb
  replace FB := FB.keep hb
  replace WB := belowT WB hb
  clear hb c0 c1 c2 c3
  have FA2 := FA
  have FB2 := FB
  obtain ⟨c0, c1⟩ := FA2
  obtain ⟨c2, c3⟩ := FB2
  go_wp2
  go_ret
  exact ⟨rfl, WB⟩

set_option maxHeartbeats 4000000 in
theorem rcmp_nb1 (an ad bn bd : Int) (hne : (an == bn) = false)
    (kra : ∀ w : World, Calls Try.prog 33 #[.agg #[.int .i64 an, .int .i64 ad]] w fun e w' => e = .returned (.bool true) ∧ Below w.heap.size w w')
    (krb : ∀ w : World, Calls Try.prog 33 #[.agg #[.int .i64 bn, .int .i64 bd]] w fun e w' => e = .returned (.bool true) ∧ Below w.heap.size w w')
    (kna : ∀ w : World, Calls Try.prog 34 #[.agg #[.int .i64 an, .int .i64 ad]] w fun e w' => e = .returned (.bool false) ∧ Below w.heap.size w w')
    (knb : ∀ w : World, Calls Try.prog 34 #[.agg #[.int .i64 bn, .int .i64 bd]] w fun e w' => e = .returned (.bool true) ∧ Below w.heap.size w w') (w : World) :
    Calls Try.prog 46 #[.agg #[.int .i64 an, .int .i64 ad], .agg #[.int .i64 bn, .int .i64 bd]] w fun e w' => e = .returned (.int .i64 (-1)) ∧ Below w.heap.size w w' := by
  have KRA := Lib.hid kra
  clear kra
  have KRB := Lib.hid krb
  clear krb
  have KNA := Lib.hid kna
  clear kna
  have KNB := Lib.hid knb
  clear knb
  go_enter Try.func46, Try.ntmps46
  go_wp2_with fail
  refine (KRA.out _).mono ?_
  rintro e w1 ⟨rfl, hb⟩
  have FA : At2 w.heap.size an ad w1 := At2.keep ⟨by go_simp, by go_simp⟩ hb
  have FB : At2 (w.heap.size + 1) bn bd w1 := At2.keep ⟨by go_simp, by go_simp⟩ hb
  have WB := belowT (belowA (belowA (Below.refl _ w) _) _) hb
  clear hb
  have FA2 := FA
  have FB2 := FB
  obtain ⟨c0, c1⟩ := FA2
  obtain ⟨c2, c3⟩ := FB2
  go_wp2_with fail
  refine (KRB.out _).mono ?_
  rintro e w2 ⟨rfl, hb⟩
  replace FA := FA.keep hb
  replace FB := FB.keep hb
  replace WB := belowT WB hb
  clear hb c0 c1 c2 c3
  have FA2 := FA
  have FB2 := FB
  obtain ⟨c0, c1⟩ := FA2
  obtain ⟨c2, c3⟩ := FB2
  go_wp2_with fail
  refine (KNA.out _).mono ?_
  rintro e w3 ⟨rfl, hb⟩
  replace FA := FA.keep hb
  replace FB := FB.keep hb
  replace WB := belowT WB hb
  clear hb c0 c1 c2 c3
  have FA2 := FA
  have FB2 := FB
  obtain ⟨c0, c1⟩ := FA2
  obtain ⟨c2, c3⟩ := FB2
  go_wp2_with fail
  refine (KNB.out _).mono ?_
  rintro e w4 ⟨rfl, hb⟩
  replace FA := FA.keep hb
  replace FB := FB.keep hb
  replace WB := belowT WB hb
  clear hb c0 c1 c2 c3
  have FA2 := FA
  have FB2 := FB
  obtain ⟨c0, c1⟩ := FA2
  obtain ⟨c2, c3⟩ := FB2
  go_wp2
  go_ret
  exact ⟨rfl, WB⟩

set_option maxHeartbeats 4000000 in
theorem rcmp_na2 (an ad bd : Int) (hne : (ad == bd) = false)
    (kra : ∀ w : World, Calls Try.prog 33 #[.agg #[.int .i64 an, .int .i64 ad]] w fun e w' => e = .returned (.bool true) ∧ Below w.heap.size w w')
    (krb : ∀ w : World, Calls Try.prog 33 #[.agg #[.int .i64 an, .int .i64 bd]] w fun e w' => e = .returned (.bool true) ∧ Below w.heap.size w w')
    (kna : ∀ w : World, Calls Try.prog 34 #[.agg #[.int .i64 an, .int .i64 ad]] w fun e w' => e = .returned (.bool true) ∧ Below w.heap.size w w') (w : World) :
    Calls Try.prog 46 #[.agg #[.int .i64 an, .int .i64 ad], .agg #[.int .i64 an, .int .i64 bd]] w fun e w' => e = .returned (.int .i64 (1)) ∧ Below w.heap.size w w' := by
  have KRA := Lib.hid kra
  clear kra
  have KRB := Lib.hid krb
  clear krb
  have KNA := Lib.hid kna
  clear kna
  go_enter Try.func46, Try.ntmps46
  go_wp2_with fail
  refine (KRA.out _).mono ?_
  rintro e w1 ⟨rfl, hb⟩
  have FA : At2 w.heap.size an ad w1 := At2.keep ⟨by go_simp, by go_simp⟩ hb
  have FB : At2 (w.heap.size + 1) an bd w1 := At2.keep ⟨by go_simp, by go_simp⟩ hb
  have WB := belowT (belowA (belowA (Below.refl _ w) _) _) hb
  clear hb
  have FA2 := FA
  have FB2 := FB
  obtain ⟨c0, c1⟩ := FA2
  obtain ⟨c2, c3⟩ := FB2
  go_wp2_with fail
  refine (KRB.out _).mono ?_
  rintro e w2 ⟨rfl, hb⟩
  replace FA := FA.keep hb
  replace FB := FB.keep hb
  replace WB := belowT WB hb
  clear hb c0 c1 c2 c3
  have FA2 := FA
  have FB2 := FB
  obtain ⟨c0, c1⟩ := FA2
  obtain ⟨c2, c3⟩ := FB2
  go_wp2_with fail
  refine (KNA.out _).mono ?_
  rintro e w3 ⟨rfl, hb⟩
  replace FA := FA.keep hb
  replace FB := FB.keep hb
  replace WB := belowT WB hb
  clear hb c0 c1 c2 c3
  have FA2 := FA
  have FB2 := FB
  obtain ⟨c0, c1⟩ := FA2
  obtain ⟨c2, c3⟩ := FB2
  go_wp2
  go_ret
  exact ⟨rfl, WB⟩

set_option maxHeartbeats 4000000 in
theorem rcmp_nb2 (an ad bd : Int) (hne : (ad == bd) = false)
    (kra : ∀ w : World, Calls Try.prog 33 #[.agg #[.int .i64 an, .int .i64 ad]] w fun e w' => e = .returned (.bool true) ∧ Below w.heap.size w w')
    (krb : ∀ w : World, Calls Try.prog 33 #[.agg #[.int .i64 an, .int .i64 bd]] w fun e w' => e = .returned (.bool true) ∧ Below w.heap.size w w')
    (kna : ∀ w : World, Calls Try.prog 34 #[.agg #[.int .i64 an, .int .i64 ad]] w fun e w' => e = .returned (.bool false) ∧ Below w.heap.size w w')
    (knb : ∀ w : World, Calls Try.prog 34 #[.agg #[.int .i64 an, .int .i64 bd]] w fun e w' => e = .returned (.bool true) ∧ Below w.heap.size w w') (w : World) :
    Calls Try.prog 46 #[.agg #[.int .i64 an, .int .i64 ad], .agg #[.int .i64 an, .int .i64 bd]] w fun e w' => e = .returned (.int .i64 (-1)) ∧ Below w.heap.size w w' := by
  have KRA := Lib.hid kra
  clear kra
  have KRB := Lib.hid krb
  clear krb
  have KNA := Lib.hid kna
  clear kna
  have KNB := Lib.hid knb
  clear knb
  go_enter Try.func46, Try.ntmps46
  go_wp2_with fail
  refine (KRA.out _).mono ?_
  rintro e w1 ⟨rfl, hb⟩
  have FA : At2 w.heap.size an ad w1 := At2.keep ⟨by go_simp, by go_simp⟩ hb
  have FB : At2 (w.heap.size + 1) an bd w1 := At2.keep ⟨by go_simp, by go_simp⟩ hb
  have WB := belowT (belowA (belowA (Below.refl _ w) _) _) hb
  clear hb
  have FA2 := FA
  have FB2 := FB
  obtain ⟨c0, c1⟩ := FA2
  obtain ⟨c2, c3⟩ := FB2
  go_wp2_with fail
  refine (KRB.out _).mono ?_
  rintro e w2 ⟨rfl, hb⟩
  replace FA := FA.keep hb
  replace FB := FB.keep hb
  replace WB := belowT WB hb
  clear hb c0 c1 c2 c3
  have FA2 := FA
  have FB2 := FB
  obtain ⟨c0, c1⟩ := FA2
  obtain ⟨c2, c3⟩ := FB2
  go_wp2_with fail
  refine (KNA.out _).mono ?_
  rintro e w3 ⟨rfl, hb⟩
  replace FA := FA.keep hb
  replace FB := FB.keep hb
  replace WB := belowT WB hb
  clear hb c0 c1 c2 c3
  have FA2 := FA
  have FB2 := FB
  obtain ⟨c0, c1⟩ := FA2
  obtain ⟨c2, c3⟩ := FB2
  go_wp2_with fail
  refine (KNB.out _).mono ?_
  rintro e w4 ⟨rfl, hb⟩
  replace FA := FA.keep hb
  replace FB := FB.keep hb
  replace WB := belowT WB hb
  clear hb c0 c1 c2 c3
  have FA2 := FA
  have FB2 := FB
  obtain ⟨c0, c1⟩ := FA2
  obtain ⟨c2, c3⟩ := FB2
  go_wp2
  go_ret
  exact ⟨rfl, WB⟩

end Go.Proofs.Ytibphmddepfgjaa

/-
  The contract of the given package gavotteref01's Cmp over this seat's translation, where it reckons. Conditions: those that each theorem states.
-/
namespace Go.Proofs.Ytibphmddepfgjaa
open Go.RowKit
attribute [local go_sem ↓] Go.wp_at_zero Go.wp_at_succ

set_option maxHeartbeats 40000000 in
theorem rcmp_pp1 (an ad bn bd : Int) (hne : (an == bn) = false) (a0 : 0 ≤ an) (a1 : an ≤ 9223372036854775807) (a2 : 0 ≤ ad) (a3 : ad ≤ 9223372036854775807) (b0 : 0 ≤ bn) (b1 : bn ≤ 9223372036854775807) (b2 : 0 ≤ bd) (b3 : bd ≤ 9223372036854775807) (hgp : an * bd < 10000 ^ 100)
    (kra : ∀ w : World, Calls Try.prog 33 #[.agg #[.int .i64 an, .int .i64 ad]] w fun e w' => e = .returned (.bool true) ∧ Below w.heap.size w w')
    (krb : ∀ w : World, Calls Try.prog 33 #[.agg #[.int .i64 bn, .int .i64 bd]] w fun e w' => e = .returned (.bool true) ∧ Below w.heap.size w w')
    (kna : ∀ w : World, Calls Try.prog 34 #[.agg #[.int .i64 an, .int .i64 ad]] w fun e w' => e = .returned (.bool false) ∧ Below w.heap.size w w')
    (knb : ∀ w : World, Calls Try.prog 34 #[.agg #[.int .i64 bn, .int .i64 bd]] w fun e w' => e = .returned (.bool false) ∧ Below w.heap.size w w') (w : World) :
    Calls Try.prog 46 #[.agg #[.int .i64 an, .int .i64 ad], .agg #[.int .i64 bn, .int .i64 bd]] w fun e w' => e = .returned (.int .i64 (sgn (an * bd) (bn * ad))) ∧ Below w.heap.size w w' := by
  have KRA := Lib.hid kra
  clear kra
  have KRB := Lib.hid krb
  clear krb
  have KNA := Lib.hid kna
  clear kna
  have KNB := Lib.hid knb
  clear knb
  have GP := Lib.hid hgp
  clear hgp
  go_enter Try.func46, Try.ntmps46
  go_wp2_with fail
  refine (KRA.out _).mono ?_
  rintro e w1 ⟨rfl, hb⟩
  have FA : At2 w.heap.size an ad w1 := At2.keep ⟨by go_simp, by go_simp⟩ hb
  have FB : At2 (w.heap.size + 1) bn bd w1 := At2.keep ⟨by go_simp, by go_simp⟩ hb
  have WB := belowT (belowA (belowA (Below.refl _ w) _) _) hb
  clear hb
  have FA2 := FA
  have FB2 := FB
  obtain ⟨c0, c1⟩ := FA2
  obtain ⟨c2, c3⟩ := FB2
  go_wp2_with fail
  refine (KRB.out _).mono ?_
  rintro e w2 ⟨rfl, hb⟩
  replace FA := FA.keep hb
  replace FB := FB.keep hb
  replace WB := belowT WB hb
  clear hb c0 c1 c2 c3
  have FA2 := FA
  have FB2 := FB
  obtain ⟨c0, c1⟩ := FA2
  obtain ⟨c2, c3⟩ := FB2
  go_wp2_with fail
  refine (KNA.out _).mono ?_
  rintro e w3 ⟨rfl, hb⟩
  replace FA := FA.keep hb
  replace FB := FB.keep hb
  replace WB := belowT WB hb
  clear hb c0 c1 c2 c3
  have FA2 := FA
  have FB2 := FB
  obtain ⟨c0, c1⟩ := FA2
  obtain ⟨c2, c3⟩ := FB2
  go_wp2_with fail
  refine (KNB.out _).mono ?_
  rintro e w4 ⟨rfl, hb⟩
  replace FA := FA.keep hb
  replace FB := FB.keep hb
  replace WB := belowT WB hb
  clear hb c0 c1 c2 c3
  have FA2 := FA
  have FB2 := FB
  obtain ⟨c0, c1⟩ := FA2
  obtain ⟨c2, c3⟩ := FB2
  go_wp2_with fail
  go_region_held3 (fun w' => w'.cell? ⟨w.heap.size, 0, none⟩ = some (.int .i64 an) ∧ w'.cell? ⟨w.heap.size, 1, none⟩ = some (.int .i64 ad) ∧ w'.cell? ⟨w.heap.size + 1, 0, none⟩ = some (.int .i64 bn) ∧ w'.cell? ⟨w.heap.size + 1, 1, none⟩ = some (.int .i64 bd))
    (first | exact ⟨c0, c1, c2, c3⟩ | (go_split_ands; exact ⟨keepc hb (by assumption), keepc hb (by assumption), keepc hb (by assumption), keepc hb (by assumption)⟩) | go_keep)
    (first
      | (go_at_call 48; refine (from_c _ (by omega) (by omega) _).mono ?_; rintro e w6 ⟨⟨v2, rfl, nv⟩, hb⟩)
      | (go_at_call 56; (first | (refine (nmul_c _ _ an bd _ ?_ ?_ (lt_b (lt_i a1)) (lt_b (lt_i b3))).mono ?_; (focus (with_reducible (repeat (first | assumption | exact num_one _ | refine NumIs.drew ?_ | refine NumIs.alloc ?_ _ | refine NumIs.keep ?_ (by assumption))); done)); (focus (with_reducible (repeat (first | assumption | exact num_one _ | refine NumIs.drew ?_ | refine NumIs.alloc ?_ _ | refine NumIs.keep ?_ (by assumption))); done))) | (refine (nmul_c _ _ bn ad _ ?_ ?_ (lt_b (lt_i b1)) (lt_b (lt_i a3))).mono ?_; (focus (with_reducible (repeat (first | assumption | exact num_one _ | refine NumIs.drew ?_ | refine NumIs.alloc ?_ _ | refine NumIs.keep ?_ (by assumption))); done)); (focus (with_reducible (repeat (first | assumption | exact num_one _ | refine NumIs.drew ?_ | refine NumIs.alloc ?_ _ | refine NumIs.keep ?_ (by assumption))); done)))); rintro e w6 ⟨⟨v2, rfl, nv, _⟩, hb⟩)
      | (go_at_call 49; refine (numcmp_c _ _ (an * bd) (bn * ad) _ ?_ ?_ GP.out).mono ?_; (focus (with_reducible (repeat (first | assumption | exact num_one _ | refine NumIs.drew ?_ | refine NumIs.alloc ?_ _ | refine NumIs.keep ?_ (by assumption))); done)); (focus (with_reducible (repeat (first | assumption | exact num_one _ | refine NumIs.drew ?_ | refine NumIs.alloc ?_ _ | refine NumIs.keep ?_ (by assumption))); done)); rintro e w6 ⟨rfl, hb⟩))
  all_goals go_wp2
  all_goals go_ret
  all_goals exact ⟨rfl, (by repeat (first | with_reducible assumption | with_reducible exact Below.refl _ _ | with_reducible refine belowN ?_ _ | with_reducible refine Below.drew ?_ | with_reducible refine belowA ?_ _ | with_reducible refine belowT ?_ (by assumption)))⟩

set_option maxHeartbeats 40000000 in
theorem rcmp_pp2 (an ad bd : Int) (hne : (ad == bd) = false) (a0 : 0 ≤ an) (a1 : an ≤ 9223372036854775807) (a2 : 0 ≤ ad) (a3 : ad ≤ 9223372036854775807) (b2 : 0 ≤ bd) (b3 : bd ≤ 9223372036854775807) (hgp : an * bd < 10000 ^ 100)
    (kra : ∀ w : World, Calls Try.prog 33 #[.agg #[.int .i64 an, .int .i64 ad]] w fun e w' => e = .returned (.bool true) ∧ Below w.heap.size w w')
    (krb : ∀ w : World, Calls Try.prog 33 #[.agg #[.int .i64 an, .int .i64 bd]] w fun e w' => e = .returned (.bool true) ∧ Below w.heap.size w w')
    (kna : ∀ w : World, Calls Try.prog 34 #[.agg #[.int .i64 an, .int .i64 ad]] w fun e w' => e = .returned (.bool false) ∧ Below w.heap.size w w')
    (knb : ∀ w : World, Calls Try.prog 34 #[.agg #[.int .i64 an, .int .i64 bd]] w fun e w' => e = .returned (.bool false) ∧ Below w.heap.size w w') (w : World) :
    Calls Try.prog 46 #[.agg #[.int .i64 an, .int .i64 ad], .agg #[.int .i64 an, .int .i64 bd]] w fun e w' => e = .returned (.int .i64 (sgn (an * bd) (an * ad))) ∧ Below w.heap.size w w' := by
  have KRA := Lib.hid kra
  clear kra
  have KRB := Lib.hid krb
  clear krb
  have KNA := Lib.hid kna
  clear kna
  have KNB := Lib.hid knb
  clear knb
  have GP := Lib.hid hgp
  clear hgp
  go_enter Try.func46, Try.ntmps46
  go_wp2_with fail
  refine (KRA.out _).mono ?_
  rintro e w1 ⟨rfl, hb⟩
  have FA : At2 w.heap.size an ad w1 := At2.keep ⟨by go_simp, by go_simp⟩ hb
  have FB : At2 (w.heap.size + 1) an bd w1 := At2.keep ⟨by go_simp, by go_simp⟩ hb
  have WB := belowT (belowA (belowA (Below.refl _ w) _) _) hb
  clear hb
  have FA2 := FA
  have FB2 := FB
  obtain ⟨c0, c1⟩ := FA2
  obtain ⟨c2, c3⟩ := FB2
  go_wp2_with fail
  refine (KRB.out _).mono ?_
  rintro e w2 ⟨rfl, hb⟩
  replace FA := FA.keep hb
  replace FB := FB.keep hb
  replace WB := belowT WB hb
  clear hb c0 c1 c2 c3
  have FA2 := FA
  have FB2 := FB
  obtain ⟨c0, c1⟩ := FA2
  obtain ⟨c2, c3⟩ := FB2
  go_wp2_with fail
  refine (KNA.out _).mono ?_
  rintro e w3 ⟨rfl, hb⟩
  replace FA := FA.keep hb
  replace FB := FB.keep hb
  replace WB := belowT WB hb
  clear hb c0 c1 c2 c3
  have FA2 := FA
  have FB2 := FB
  obtain ⟨c0, c1⟩ := FA2
  obtain ⟨c2, c3⟩ := FB2
  go_wp2_with fail
  refine (KNB.out _).mono ?_
  rintro e w4 ⟨rfl, hb⟩
  replace FA := FA.keep hb
  replace FB := FB.keep hb
  replace WB := belowT WB hb
  clear hb c0 c1 c2 c3
  have FA2 := FA
  have FB2 := FB
  obtain ⟨c0, c1⟩ := FA2
  obtain ⟨c2, c3⟩ := FB2
  go_wp2_with fail
  go_region_held3 (fun w' => w'.cell? ⟨w.heap.size, 0, none⟩ = some (.int .i64 an) ∧ w'.cell? ⟨w.heap.size, 1, none⟩ = some (.int .i64 ad) ∧ w'.cell? ⟨w.heap.size + 1, 0, none⟩ = some (.int .i64 an) ∧ w'.cell? ⟨w.heap.size + 1, 1, none⟩ = some (.int .i64 bd))
    (first | exact ⟨c0, c1, c2, c3⟩ | (go_split_ands; exact ⟨keepc hb (by assumption), keepc hb (by assumption), keepc hb (by assumption), keepc hb (by assumption)⟩) | go_keep)
    (first
      | (go_at_call 48; refine (from_c _ (by omega) (by omega) _).mono ?_; rintro e w6 ⟨⟨v2, rfl, nv⟩, hb⟩)
      | (go_at_call 56; (first | (refine (nmul_c _ _ an bd _ ?_ ?_ (lt_b (lt_i a1)) (lt_b (lt_i b3))).mono ?_; (focus (with_reducible (repeat (first | assumption | exact num_one _ | refine NumIs.drew ?_ | refine NumIs.alloc ?_ _ | refine NumIs.keep ?_ (by assumption))); done)); (focus (with_reducible (repeat (first | assumption | exact num_one _ | refine NumIs.drew ?_ | refine NumIs.alloc ?_ _ | refine NumIs.keep ?_ (by assumption))); done))) | (refine (nmul_c _ _ an ad _ ?_ ?_ (lt_b (lt_i a1)) (lt_b (lt_i a3))).mono ?_; (focus (with_reducible (repeat (first | assumption | exact num_one _ | refine NumIs.drew ?_ | refine NumIs.alloc ?_ _ | refine NumIs.keep ?_ (by assumption))); done)); (focus (with_reducible (repeat (first | assumption | exact num_one _ | refine NumIs.drew ?_ | refine NumIs.alloc ?_ _ | refine NumIs.keep ?_ (by assumption))); done)))); rintro e w6 ⟨⟨v2, rfl, nv, _⟩, hb⟩)
      | (go_at_call 49; refine (numcmp_c _ _ (an * bd) (an * ad) _ ?_ ?_ GP.out).mono ?_; (focus (with_reducible (repeat (first | assumption | exact num_one _ | refine NumIs.drew ?_ | refine NumIs.alloc ?_ _ | refine NumIs.keep ?_ (by assumption))); done)); (focus (with_reducible (repeat (first | assumption | exact num_one _ | refine NumIs.drew ?_ | refine NumIs.alloc ?_ _ | refine NumIs.keep ?_ (by assumption))); done)); rintro e w6 ⟨rfl, hb⟩))
  all_goals go_wp2
  all_goals go_ret
  all_goals exact ⟨rfl, (by repeat (first | with_reducible assumption | with_reducible exact Below.refl _ _ | with_reducible refine belowN ?_ _ | with_reducible refine Below.drew ?_ | with_reducible refine belowA ?_ _ | with_reducible refine belowT ?_ (by assumption)))⟩

end Go.Proofs.Ytibphmddepfgjaa

/-
  The contracts of the given package gavotteref01's Right and Cmp over this seat's translation, whole. Conditions: the numbers are ints.
-/
namespace Go.Proofs.Ytibphmddepfgjaa
open Go.RowKit

theorem rright_c (n d : Int) (hn : In64 n) (hd : In64 d) (w : World) :
    Calls Try.prog 33 #[.agg #[.int .i64 n, .int .i64 d]] w fun e w' => e = .returned (.bool (rightB n d)) ∧ Below w.heap.size w w' := by
  by_cases h : isNever n d
  · obtain ⟨rfl, rfl⟩ := h
    rw [right_never]
    exact rright_never w
  · by_cases h2 : 0 < d ∧ 0 ≤ n
    · exact rright_yes n d hn hd h h2.1 h2.2 w
    · exact rright_no n d hn hd h (by omega) w

theorem ne_two {a b c d : Int} (h : ¬ (a = b ∧ c = d)) : (a == b) = false ∨ (a = b ∧ (c == d) = false) := by
  by_cases e : a = b
  · right
    refine ⟨e, ?_⟩
    simp
    omega
  · left
    simpa using e

theorem lt_p {x y : Int} (x1 : x ≤ 9223372036854775807) (y0 : 0 ≤ y) (y1 : y ≤ 9223372036854775807) : x * y < 10000 ^ 100 := by
  have h : x * y ≤ 9223372036854775807 * 9223372036854775807 := Int.mul_le_mul x1 y1 y0 (by omega)
  have h1 := pow_mono 10 100 (by omega)
  have h2 : (10000 : Int) ^ 10 = 10000000000000000000000000000000000000000 := by decide
  generalize (10000 : Int) ^ 100 = M at *
  omega

theorem rcmp_c (an ad bn bd : Int) (ha : In64 an ∧ In64 ad) (hb : In64 bn ∧ In64 bd) (w : World) :
    Calls Try.prog 46 #[.agg #[.int .i64 an, .int .i64 ad], .agg #[.int .i64 bn, .int .i64 bd]] w fun e w' => e = .returned (.int .i64 (cmpS an ad bn bd)) ∧ Below w.heap.size w w' := by
  have kra := rright_c an ad ha.1 ha.2
  have krb := rright_c bn bd hb.1 hb.2
  by_cases ra : rightB an ad = true
  · by_cases rb : rightB bn bd = true
    · have hc : cmpS an ad bn bd = sgn (an * bd) (bn * ad) := by unfold cmpS; rw [if_pos ⟨ra, rb⟩]
      have da := right_bd ra
      have db := right_bd rb
      rw [ra] at kra
      rw [rb] at krb
      rw [hc]
      by_cases he : an = bn ∧ ad = bd
      · obtain ⟨rfl, rfl⟩ := he
        rw [sgn_eq rfl]
        exact rcmp_same an ad kra krb w
      · by_cases na : isNever an ad
        · obtain ⟨rfl, rfl⟩ := na
          have nb : ¬ isNever bn bd := fun h => he ⟨h.1.symm, h.2.symm⟩
          have pb := plain_of rb nb
          rw [sgn_gt (by have := pb.1; omega)]
          rcases ne_two he with h | ⟨rfl, h⟩
          · exact rcmp_na1 1 0 bn bd h kra krb rnever_yes w
          · exact rcmp_na2 1 0 bd h kra krb rnever_yes w
        · have pa := plain_of ra na
          have kna := rnever_no an ad na
          by_cases nb : isNever bn bd
          · obtain ⟨rfl, rfl⟩ := nb
            rw [sgn_lt (by have := pa.1; omega)]
            rcases ne_two he with h | ⟨rfl, h⟩
            · exact rcmp_nb1 an ad 1 0 h kra krb kna rnever_yes w
            · exact rcmp_nb2 1 ad 0 h kra krb kna rnever_yes w
          · have knb := rnever_no bn bd nb
            have gp := lt_p ha.1.2 db.2 hb.2.2
            rcases ne_two he with h | ⟨rfl, h⟩
            · exact rcmp_pp1 an ad bn bd h da.1 ha.1.2 da.2 ha.2.2 db.1 hb.1.2 db.2 hb.2.2 gp kra krb kna knb w
            · exact rcmp_pp2 an ad bd h da.1 ha.1.2 da.2 ha.2.2 db.2 hb.2.2 gp kra krb kna knb w
    · have hc : cmpS an ad bn bd = 0 := by unfold cmpS; rw [if_neg (fun h => rb h.2)]
      rw [ra] at kra
      rw [Bool.eq_false_iff.2 rb] at krb
      rw [hc]
      exact rcmp_notb an ad bn bd kra krb w
  · have hc : cmpS an ad bn bd = 0 := by unfold cmpS; rw [if_neg (fun h => ra h.1)]
    rw [Bool.eq_false_iff.2 ra] at kra
    rw [hc]
    exact rcmp_nota an ad bn bd kra w
end Go.Proofs.Ytibphmddepfgjaa
