/-
  Several texts in one: SpanA SpanB SpanC SpanD SpanE SpanF SpanG.
-/
import Derived.Test.YtibphmddepfgjaaRows
import Derived.WalkKit
import Derived.WalkSpells
import Derived.WalkLawsBesides
import Derived.BigRegion
import Derived.BigQuiet
import Derived.Outline
import Derived.Lib.Hide
import Derived.Lib.Mul64
import Derived.Laws.Bits64b
import Derived.Deep.QuietTactic
import Derived.Deep.RegionWith
import Derived.Deep.RegionHeld3
import Derived.Deep.DrawnRows
import Derived.LoopN

/-
  The contracts of the small functions of package span over this seat's translation: gcd, times, compare. No condition but the bounds that each theorem states.
-/
namespace Go.Proofs.Ytibphmddepfgjaa
open Go.RowKit

theorem belowN {B : Nat} {a w : World} (h : Below B a w) (n : Nat) : Below B a (w.drewN n) := ⟨h.os, h.tape, h.output, h.size, h.block⟩
theorem ret_int {k : IntKind} {a b : Int} (h : a = b) : Ending.returned (.int k a) = .returned (.int k b) := by rw [h]
theorem emod_facts (a b : Int) (hb : 0 < b) : 0 ≤ a % b ∧ a % b < b := ⟨Int.emod_nonneg _ (by omega), Int.emod_lt_of_pos _ hb⟩

theorem gcd_step (a b : Int) (ha : 0 ≤ a) (hb : 0 ≤ b) : Int.gcd b (a % b) = Int.gcd a b := by
  obtain ⟨x, rfl⟩ := Int.eq_ofNat_of_zero_le ha
  obtain ⟨y, rfl⟩ := Int.eq_ofNat_of_zero_le hb
  rw [← Int.natCast_emod]
  simp only [Int.gcd_natCast_natCast]
  rw [Nat.gcd_comm y (x % y), ← Nat.gcd_rec, Nat.gcd_comm]

set_option maxHeartbeats 400000 in
theorem gcd_c (a0 b0 : Int) (ha0 : 0 ≤ a0) (ha : a0 ≤ 18446744073709551615) (hb0 : 0 ≤ b0) (hb : b0 ≤ 18446744073709551615) (w : World) :
    Calls Try.prog 58 #[.int .u64 a0, .int .u64 b0] w fun e w' => e = .returned (.int .u64 (Int.gcd a0 b0)) ∧ Below w.heap.size w w' := by
  go_enter Try.func58, Try.ntmps58
  go_wp2
  go_loopw [0, 1] (fun va vb wr => ∃ a b : Int, va = .int .u64 a ∧ vb = .int .u64 b ∧ 0 ≤ a ∧ a ≤ 18446744073709551615 ∧ 0 ≤ b ∧ b ≤ 18446744073709551615 ∧ Int.gcd a b = Int.gcd a0 b0 ∧ Below w.heap.size w wr) (fun _ vb _ => (intOf vb).toNat)
  case atStart => exact ⟨a0, b0, rfl, rfl, ha0, ha, hb0, hb, rfl, Below.refl _ _⟩
  case round =>
    obtain ⟨a, b, rfl, rfl, h1, h2, h3, h4, hg, hal⟩ := hrel
    have Hg := Lib.hid hg
    clear hg
    by_cases hb : 0 < b
    · have hm := emod_facts a b hb
      go_wp2
      go_quiet (fail)
      go_wp2
      go_roundw
      case rel =>
        exact ⟨b, a % b, rfl, rfl, h3, h4, hm.1, by omega, by rw [gcd_step a b h1 h3]; exact Hg.out, belowN hal _⟩
      case measure => simp [intOf]; omega
    · have hb1 : b = 0 := by omega
      subst hb1
      go_wp2
      go_ret
      exact ⟨ret_int (by rw [← Hg.out, Int.gcd_zero_right]; omega), hal⟩

/-! ### The product of two words, of the four products of their halves -/
theorem maskN (a : Nat) (ha : a < 18446744073709551616) : bits .and .u64 (a : Int) 4294967295 = ((a % 4294967296 : Nat) : Int) := by
  have h := bits_and_u64_nat a 4294967295 ha (by omega)
  have e : a &&& 4294967295 = a % 4294967296 := Nat.and_two_pow_sub_one_eq_mod a 32
  rw [e] at h
  exact h
theorem orN (a b : Nat) (ha : a < 18446744073709551616) (hb : b < 18446744073709551616) : bits .or .u64 (a : Int) (b : Int) = ((a ||| b : Nat) : Int) := bits_or_u64_nat a b ha hb
theorem divN (a : Nat) : (a : Int) / 4294967296 = ((a / 4294967296 : Nat) : Int) := by omega
theorem mulN (a b : Nat) : (a : Int) * (b : Int) = ((a * b : Nat) : Int) := (Int.natCast_mul a b).symm
theorem mulK (a : Nat) : (a : Int) * 4294967296 = ((a * 4294967296 : Nat) : Int) := by omega
theorem addN (a b : Nat) : (a : Int) + (b : Int) = ((a + b : Nat) : Int) := (Int.natCast_add a b).symm
theorem wrapN (a : Nat) (ha : a < 18446744073709551616) : IntKind.u64.wrap (a : Int) = (a : Int) := by rw [IntKind.wrap_u64]; omega
theorem wrapM (a : Nat) : IntKind.u64.wrap (a : Int) = ((a % 18446744073709551616 : Nat) : Int) := by rw [IntKind.wrap_u64]; omega
theorem or_low (t d : Nat) : (t * 4294967296) % 18446744073709551616 ||| d % 4294967296 = (t % 4294967296) * 4294967296 + d % 4294967296 := by
  have e : (t * 4294967296) % 18446744073709551616 = 2 ^ 32 * (t % 4294967296) := by omega
  rw [e, ← Nat.two_pow_add_eq_or_of_lt (show d % 4294967296 < 2 ^ 32 by omega) (t % 4294967296)]
  omega
theorem mulW (x y : Nat) (hx : x < 18446744073709551616) (hy : y < 18446744073709551616) :
    (x % 4294967296) * (y % 4294967296) < 18446744073709551616 ∧
    (x / 4294967296) * (y % 4294967296) + (x % 4294967296) * (y % 4294967296) / 4294967296 < 18446744073709551616 ∧
    (x % 4294967296) * (y / 4294967296) + ((x / 4294967296) * (y % 4294967296) + (x % 4294967296) * (y % 4294967296) / 4294967296) % 4294967296 < 18446744073709551616 ∧
    (x / 4294967296) * (y / 4294967296) + ((x / 4294967296) * (y % 4294967296) + (x % 4294967296) * (y % 4294967296) / 4294967296) / 4294967296 +
      ((x % 4294967296) * (y / 4294967296) + ((x / 4294967296) * (y % 4294967296) + (x % 4294967296) * (y % 4294967296) / 4294967296) % 4294967296) / 4294967296 = x * y / 18446744073709551616 ∧
    (((x % 4294967296) * (y / 4294967296) + ((x / 4294967296) * (y % 4294967296) + (x % 4294967296) * (y % 4294967296) / 4294967296) % 4294967296) * 4294967296) % 18446744073709551616 ||| ((x % 4294967296) * (y % 4294967296)) % 4294967296 = x * y % 18446744073709551616 := by
  rw [or_low]
  have e : x * y = (x / 4294967296) * (y / 4294967296) * (4294967296 * 4294967296) + ((x / 4294967296) * (y % 4294967296) + (x % 4294967296) * (y / 4294967296)) * 4294967296 + (x % 4294967296) * (y % 4294967296) := by
    rw [← Lib.split_mul, Nat.div_add_mod' x 4294967296, Nat.div_add_mod' y 4294967296]
  have ha := Lib.half_mul_le (a := x / 4294967296) (b := y / 4294967296) (by omega) (by omega)
  have hb := Lib.half_mul_le (a := x / 4294967296) (b := y % 4294967296) (by omega) (by omega)
  have hc := Lib.half_mul_le (a := x % 4294967296) (b := y / 4294967296) (by omega) (by omega)
  have hd := Lib.half_mul_le (a := x % 4294967296) (b := y % 4294967296) (by omega) (by omega)
  rw [e]
  generalize (x / 4294967296) * (y / 4294967296) = a at *
  generalize (x / 4294967296) * (y % 4294967296) = b at *
  generalize (x % 4294967296) * (y / 4294967296) = c at *
  generalize (x % 4294967296) * (y % 4294967296) = d at *
  refine ⟨by omega, by omega, by omega, by omega, by omega⟩

set_option maxHeartbeats 1000000 in
theorem times_n (x y : Nat) (hx : x < 18446744073709551616) (hy : y < 18446744073709551616) (w : World) :
    Calls Try.prog 60 #[.int .u64 x, .int .u64 y] w fun e w' => e = .returned (.agg #[.int .u64 ((x * y / 18446744073709551616 : Nat) : Int), .int .u64 ((x * y % 18446744073709551616 : Nat) : Int)]) ∧ Below w.heap.size w w' := by
  obtain ⟨bd, bt, bw, hhi, hlo⟩ := mulW x y hx hy
  have ba := Lib.half_mul_le (a := x / 4294967296) (b := y / 4294967296) (by omega) (by omega)
  have bb := Lib.half_mul_le (a := x / 4294967296) (b := y % 4294967296) (by omega) (by omega)
  have bc := Lib.half_mul_le (a := x % 4294967296) (b := y / 4294967296) (by omega) (by omega)
  have ba' : x / 4294967296 * (y / 4294967296) < 18446744073709551616 := by omega
  have bb' : x / 4294967296 * (y % 4294967296) < 18446744073709551616 := by omega
  have bc' : x % 4294967296 * (y / 4294967296) < 18446744073709551616 := by omega
  have bm : x % 4294967296 * (y % 4294967296) % 4294967296 < 18446744073709551616 := by omega
  have bo : (x % 4294967296 * (y / 4294967296) + (x / 4294967296 * (y % 4294967296) + x % 4294967296 * (y % 4294967296) / 4294967296) % 4294967296) * 4294967296 % 18446744073709551616 < 18446744073709551616 := by omega
  have bh1 : x / 4294967296 * (y / 4294967296) + (x / 4294967296 * (y % 4294967296) + x % 4294967296 * (y % 4294967296) / 4294967296) / 4294967296 < 18446744073709551616 := by omega
  have bh : x / 4294967296 * (y / 4294967296) + (x / 4294967296 * (y % 4294967296) + x % 4294967296 * (y % 4294967296) / 4294967296) / 4294967296 + (x % 4294967296 * (y / 4294967296) + (x / 4294967296 * (y % 4294967296) + x % 4294967296 * (y % 4294967296) / 4294967296) % 4294967296) / 4294967296 < 18446744073709551616 := by omega
  go_enter Try.func60, Try.ntmps60
  go_wp2
  simp only [maskN x hx, maskN y hy, divN, mulN, mulK, addN, wrapN _ bd, wrapN _ bb', wrapN _ bt, maskN _ bt, maskN _ bd, wrapN _ bc', wrapN _ bw, wrapN _ ba', wrapN _ bh1, wrapN _ bh, wrapM, orN _ _ bo bm]
  rw [hhi, hlo]
  exact bodyPost_ret (v := .agg #[.int .u64 ((x * y / 18446744073709551616 : Nat) : Int), .int .u64 ((x * y % 18446744073709551616 : Nat) : Int)]) (by simp [results, Try.results60, go_sem]) rfl ⟨rfl, (Below.refl _ _).alloc (Nat.le_refl _) _⟩

theorem times_c (x y : Int) (hx0 : 0 ≤ x) (hx : x ≤ 18446744073709551615) (hy0 : 0 ≤ y) (hy : y ≤ 18446744073709551615) (w : World) :
    Calls Try.prog 60 #[.int .u64 x, .int .u64 y] w fun e w' => e = .returned (.agg #[.int .u64 (x * y / 18446744073709551616), .int .u64 (x * y % 18446744073709551616)]) ∧ Below w.heap.size w w' := by
  obtain ⟨x, rfl⟩ := Int.eq_ofNat_of_zero_le hx0
  obtain ⟨y, rfl⟩ := Int.eq_ofNat_of_zero_le hy0
  have h := times_n x y (by omega) (by omega) w
  rw [mulN]
  have e1 : ((x * y : Nat) : Int) / 18446744073709551616 = ((x * y / 18446744073709551616 : Nat) : Int) := by omega
  have e2 : ((x * y : Nat) : Int) % 18446744073709551616 = ((x * y % 18446744073709551616 : Nat) : Int) := by omega
  rw [e1, e2]
  exact h
end Go.Proofs.Ytibphmddepfgjaa

/-
  The contracts of package span over this seat's translation, second part: cmp.Compare at uint64, cmp.Or at two ints, compare. No condition but the bounds that each theorem states.
-/
namespace Go.Proofs.Ytibphmddepfgjaa
open Go.RowKit
attribute [local go_sem ↓] Go.wp_at_zero Go.wp_at_succ

theorem belowA {a w : World} (h : Below a.heap.size a w) (o : Obj) : Below a.heap.size a (w.alloc o) := h.alloc h.size o
theorem belowT {a w w' : World} (h : Below a.heap.size a w) (k : Below w.heap.size w w') : Below a.heap.size a w' := h.trans (k.mono h.size)

/-- How one number stands to another. -/
def sgn (x y : Int) : Int := if x < y then -1 else if y < x then 1 else 0

theorem sgn_lt {x y : Int} (h : x < y) : sgn x y = -1 := by unfold sgn; rw [if_pos h]
theorem sgn_gt {x y : Int} (h : y < x) : sgn x y = 1 := by unfold sgn; rw [if_neg (by omega), if_pos h]
theorem sgn_eq {x y : Int} (h : x = y) : sgn x y = 0 := by unfold sgn; rw [if_neg (by omega), if_neg (by omega)]

theorem cmp64_c (x y : Int) (w : World) :
    Calls Try.prog 64 #[.int .u64 x, .int .u64 y] w fun e w' => e = .returned (.int .i64 (sgn x y)) ∧ w = w' := by
  rcases Int.lt_trichotomy x y with h | h | h
  · go_enter Try.func64, Try.ntmps64
    go_wp2
    go_ret
    exact ⟨ret_int (sgn_lt h).symm, rfl⟩
  · subst h
    go_enter Try.func64, Try.ntmps64
    go_wp2
    go_ret
    exact ⟨ret_int (sgn_eq rfl).symm, rfl⟩
  · go_enter Try.func64, Try.ntmps64
    go_wp2
    go_ret
    exact ⟨ret_int (sgn_gt h).symm, rfl⟩

def or2 (a b : Int) : Int := if a = 0 then b else a

set_option maxHeartbeats 400000 in
theorem or2_c (b : Nat) (x y : Int) (w : World) (hx : w.cell? ⟨b, 0, none⟩ = some (.int .i64 x)) (hy : w.cell? ⟨b, 1, none⟩ = some (.int .i64 y)) :
    Calls Try.prog 53 #[.slice (some ⟨b, 0, none⟩) 2 2] w fun e w' => e = .returned (.int .i64 (or2 x y)) ∧ w = w' := by
  by_cases h : x = 0
  · subst h
    by_cases h : y = 0
    · subst h
      go_enter Try.func53, Try.ntmps53
      go_wp2
      refine wp_loop_rounds 3 ?_
      repeat (rw [rounds_succ]; go_wp2)
      go_ret
      exact ⟨rfl, rfl⟩
    · have hb : (y != 0) = true := by simpa using h
      go_enter Try.func53, Try.ntmps53
      go_wp2
      refine wp_loop_rounds 3 ?_
      rw [rounds_succ]; go_wp2
      rw [rounds_succ]; go_wp2
      go_ret
      exact ⟨rfl, rfl⟩
  · have hb : (x != 0) = true := by simpa using h
    go_enter Try.func53, Try.ntmps53
    go_wp2
    refine wp_loop_rounds 3 ?_
    rw [rounds_succ]; go_wp2
    go_ret
    exact ⟨ret_int (by unfold or2; rw [if_neg h]), rfl⟩

theorem or2_sgn (a b c d : Int) (hb : 0 ≤ b ∧ b ≤ 18446744073709551615) (hd : 0 ≤ d ∧ d ≤ 18446744073709551615) :
    or2 (sgn a c) (sgn b d) = sgn (a * 18446744073709551616 + b) (c * 18446744073709551616 + d) := by
  unfold or2 sgn
  (repeat' split) <;> omega

set_option maxHeartbeats 1000000 in
theorem compare_c (ah al bh bl : Int) (ha : 0 ≤ al ∧ al ≤ 18446744073709551615) (hb : 0 ≤ bl ∧ bl ≤ 18446744073709551615) (w : World) :
    Calls Try.prog 59 #[.agg #[.int .u64 ah, .int .u64 al], .agg #[.int .u64 bh, .int .u64 bl]] w fun e w' => e = .returned (.int .i64 (sgn (ah * 18446744073709551616 + al) (bh * 18446744073709551616 + bl))) ∧ Below w.heap.size w w' := by
  rw [← or2_sgn ah al bh bl ha hb]
  go_enter Try.func59, Try.ntmps59
  go_wp2_with fail
  go_region_held3 (fun w' => w'.cell? ⟨w.heap.size, 0, none⟩ = some (.int .u64 ah) ∧ w'.cell? ⟨w.heap.size, 1, none⟩ = some (.int .u64 al) ∧ w'.cell? ⟨w.heap.size + 1, 0, none⟩ = some (.int .u64 bh) ∧ w'.cell? ⟨w.heap.size + 1, 1, none⟩ = some (.int .u64 bl))
    (go_keep)
    (first
      | (go_at_call 64; refine (cmp64_c _ _ _).mono ?_; rintro e w' ⟨rfl, rfl⟩)
      | (go_at_call 53; refine (or2_c _ (sgn ah bh) (sgn al bl) _ ?hx ?hy).mono ?_; (case hx => go_simp); (case hy => go_simp); rintro e w' ⟨rfl, rfl⟩))
  all_goals go_wp2
  all_goals (go_ret; exact ⟨rfl, by repeat (first | exact Below.refl _ _ | refine belowN ?_ _ | refine Below.drew ?_ | refine belowA ?_ _)⟩)
end Go.Proofs.Ytibphmddepfgjaa

/-
  The contracts of package span over this seat's translation, third part: Never, Right, Cmp. No condition but the bounds that each theorem states.
-/
namespace Go.Proofs.Ytibphmddepfgjaa
open Go.RowKit
attribute [local go_sem ↓] Go.wp_at_zero Go.wp_at_succ

theorem keepc {w w' : World} (h : Below w.heap.size w w') {p : Addr} {v : Value} (hc : w.cell? p = some v) : w'.cell? p = some v := (h.cell (World.block_lt_of_cell? w _ hc)).trans hc
theorem keepf {w w' : World} (h : Below w.heap.size w w') {p : Addr} {v : Value} (hc : w.cell? p = some v) {b : Bool} (hf : w.frozen? p = b) : w'.frozen? p = b := (h.frozen (World.block_lt_of_cell? w _ hc)).trans hf

theorem never_c (w : World) :
    Calls Try.prog 41 #[] w fun e w' => e = .returned (.agg #[.int .i64 1, .int .i64 0]) ∧ Below w.heap.size w w' := by
  go_enter Try.func41, Try.ntmps41
  go_wp2
  exact bodyPost_ret (v := .agg #[.int .i64 1, .int .i64 0]) (by simp [results, Try.results41, go_sem]) rfl ⟨rfl, (Below.refl _ _).alloc (Nat.le_refl _) _⟩

/-- Is a time right? -/
def isNever (n d : Int) : Prop := n = 1 ∧ d = 0
def plainR (n d : Int) : Prop := 0 < d ∧ 0 ≤ n ∧ Int.gcd n d = 1
instance (n d : Int) : Decidable (isNever n d) := by unfold isNever; infer_instance
instance (n d : Int) : Decidable (plainR n d) := by unfold plainR; infer_instance
def rightB (n d : Int) : Bool := decide (isNever n d ∨ plainR n d)

theorem right_never : rightB 1 0 = true := by decide
theorem right_d (n d : Int) (h : ¬ isNever n d) (hd : ¬ 0 < d) : rightB n d = false := by unfold rightB plainR; simp [h, hd]
theorem right_n (n d : Int) (h : ¬ isNever n d) (hn : ¬ 0 ≤ n) : rightB n d = false := by unfold rightB plainR; simp [h, hn]
theorem right_g (n d : Int) (h : ¬ isNever n d) (hd : 0 < d) (hn : 0 ≤ n) : rightB n d = ((Int.gcd n d : Int) == 1) := by
  unfold rightB plainR
  rw [Bool.eq_iff_iff]
  simp [h, hd, hn]
  omega

abbrev In64 (x : Int) : Prop := -9223372036854775808 ≤ x ∧ x ≤ 9223372036854775807

theorem ret_bool {a b : Bool} (h : a = b) : Ending.returned (.bool a) = .returned (.bool b) := by rw [h]

set_option maxHeartbeats 1000000 in
theorem right_one (d : Int) (hd : In64 d) (h : ¬ isNever 1 d) (w : World) :
    Calls Try.prog 52 #[.agg #[.int .i64 1, .int .i64 d]] w fun e w' => e = .returned (.bool (rightB 1 d)) ∧ Below w.heap.size w w' := by
  have hd0 : (d == 0) = false := by
    unfold isNever at h
    simpa using h
  have hn1 : (0 : Int) ≤ 1 := by omega
  obtain ⟨hd1, hd2⟩ := hd
  by_cases hdp : 0 < d
  · have hrg := right_g 1 d h hdp (by omega)
    have Hrg := Lib.hid hrg
    clear hrg
    go_enter Try.func52, Try.ntmps52
    go_wp2_with fail
    go_region_held3 (fun w' => w'.cell? ⟨w.heap.size, 0, none⟩ = some (.int .i64 1) ∧ w'.cell? ⟨w.heap.size, 1, none⟩ = some (.int .i64 d))
      (first | (go_split_ands; (repeat' apply And.intro) <;> exact keepc hb (by assumption)) | go_keep)
      (first | (go_at_call 41; refine (never_c _).mono ?_; rintro e w1 ⟨rfl, hb⟩))
    go_wp2_with (go_at_call 58; refine (gcd_c _ _ (by omega) (by omega) (by omega) (by omega) _).mono ?_; rintro e w2 ⟨rfl, hb2⟩)
    go_ret
    exact ⟨ret_bool (by rw [Hrg.out]; simp), (by repeat (first | exact Below.refl _ _ | refine belowN ?_ _ | refine Below.drew ?_ | refine belowA ?_ _ | refine belowT ?_ (by assumption)))⟩
  · have hrg := right_d 1 d h hdp
    have Hrg := Lib.hid hrg
    clear hrg
    go_enter Try.func52, Try.ntmps52
    go_wp2_with fail
    go_region_held3 (fun w' => w'.cell? ⟨w.heap.size, 0, none⟩ = some (.int .i64 1) ∧ w'.cell? ⟨w.heap.size, 1, none⟩ = some (.int .i64 d))
      (first | (go_split_ands; (repeat' apply And.intro) <;> exact keepc hb (by assumption)) | go_keep)
      (first | (go_at_call 41; refine (never_c _).mono ?_; rintro e w1 ⟨rfl, hb⟩))
    go_wp2
    go_ret
    exact ⟨ret_bool Hrg.out.symm, (by repeat (first | exact Below.refl _ _ | refine belowN ?_ _ | refine Below.drew ?_ | refine belowA ?_ _ | refine belowT ?_ (by assumption)))⟩

set_option maxHeartbeats 1000000 in
theorem right_not (n d : Int) (hn : In64 n) (hd : In64 d) (h1 : ¬ n = 1) (h : ¬ isNever n d) (w : World) :
    Calls Try.prog 52 #[.agg #[.int .i64 n, .int .i64 d]] w fun e w' => e = .returned (.bool (rightB n d)) ∧ Below w.heap.size w w' := by
  have hn0 : (n == 1) = false := by simpa using h1
  obtain ⟨hn1, hn2⟩ := hn
  obtain ⟨hd1, hd2⟩ := hd
  by_cases hdp : 0 < d
  · by_cases hnp : 0 ≤ n
    · have hrg := right_g n d h hdp hnp
      have Hrg := Lib.hid hrg
      clear hrg
      go_enter Try.func52, Try.ntmps52
      go_wp2_with fail
      go_region_held3 (fun w' => w'.cell? ⟨w.heap.size, 0, none⟩ = some (.int .i64 n) ∧ w'.cell? ⟨w.heap.size, 1, none⟩ = some (.int .i64 d))
        (first | (go_split_ands; (repeat' apply And.intro) <;> exact keepc hb (by assumption)) | go_keep)
        (first | (go_at_call 41; refine (never_c _).mono ?_; rintro e w1 ⟨rfl, hb⟩))
      go_wp2_with (go_at_call 58; refine (gcd_c _ _ (by omega) (by omega) (by omega) (by omega) _).mono ?_; rintro e w2 ⟨rfl, hb2⟩)
      go_ret
      exact ⟨ret_bool Hrg.out.symm, (by repeat (first | exact Below.refl _ _ | refine belowN ?_ _ | refine Below.drew ?_ | refine belowA ?_ _ | refine belowT ?_ (by assumption)))⟩
    · have hrg := right_n n d h hnp
      have Hrg := Lib.hid hrg
      clear hrg
      go_enter Try.func52, Try.ntmps52
      go_wp2_with fail
      go_region_held3 (fun w' => w'.cell? ⟨w.heap.size, 0, none⟩ = some (.int .i64 n) ∧ w'.cell? ⟨w.heap.size, 1, none⟩ = some (.int .i64 d))
        (first | (go_split_ands; (repeat' apply And.intro) <;> exact keepc hb (by assumption)) | go_keep)
        (first | (go_at_call 41; refine (never_c _).mono ?_; rintro e w1 ⟨rfl, hb⟩))
      go_wp2
      go_ret
      exact ⟨ret_bool Hrg.out.symm, (by repeat (first | exact Below.refl _ _ | refine belowN ?_ _ | refine Below.drew ?_ | refine belowA ?_ _ | refine belowT ?_ (by assumption)))⟩
  · have hrg := right_d n d h hdp
    have Hrg := Lib.hid hrg
    clear hrg
    go_enter Try.func52, Try.ntmps52
    go_wp2_with fail
    go_region_held3 (fun w' => w'.cell? ⟨w.heap.size, 0, none⟩ = some (.int .i64 n) ∧ w'.cell? ⟨w.heap.size, 1, none⟩ = some (.int .i64 d))
      (first | (go_split_ands; (repeat' apply And.intro) <;> exact keepc hb (by assumption)) | go_keep)
      (first | (go_at_call 41; refine (never_c _).mono ?_; rintro e w1 ⟨rfl, hb⟩))
    go_wp2
    go_ret
    exact ⟨ret_bool Hrg.out.symm, (by repeat (first | exact Below.refl _ _ | refine belowN ?_ _ | refine Below.drew ?_ | refine belowA ?_ _ | refine belowT ?_ (by assumption)))⟩

set_option maxHeartbeats 1000000 in
theorem right_c (n d : Int) (hn : In64 n) (hd : In64 d) (w : World) :
    Calls Try.prog 52 #[.agg #[.int .i64 n, .int .i64 d]] w fun e w' => e = .returned (.bool (rightB n d)) ∧ Below w.heap.size w w' := by
  obtain ⟨hn1, hn2⟩ := hn
  obtain ⟨hd1, hd2⟩ := hd
  by_cases h : isNever n d
  · have H := h
    obtain ⟨rfl, rfl⟩ := h
    go_enter Try.func52, Try.ntmps52
    go_wp2_with fail
    go_region_held3 (fun w' => w'.cell? ⟨w.heap.size, 0, none⟩ = some (.int .i64 1) ∧ w'.cell? ⟨w.heap.size, 1, none⟩ = some (.int .i64 0))
      (first | (go_split_ands; (repeat' apply And.intro) <;> exact keepc hb (by assumption)) | go_keep)
      (first | (go_at_call 41; refine (never_c _).mono ?_; rintro e w1 ⟨rfl, hb⟩))
    go_wp2
    go_ret
    exact ⟨ret_bool right_never.symm, (by repeat (first | exact Below.refl _ _ | refine belowN ?_ _ | refine Below.drew ?_ | refine belowA ?_ _ | refine belowT ?_ (by assumption)))⟩
  · by_cases h1 : n = 1
    · subst h1
      have hd0 : (d == 0) = false := by
        unfold isNever at h
        simpa using h
      exact right_one d ⟨hd1, hd2⟩ h w
    · exact right_not n d ⟨hn1, hn2⟩ ⟨hd1, hd2⟩ h1 h w
end Go.Proofs.Ytibphmddepfgjaa

/-
  The contracts of package span over this seat's translation, fourth part: Cmp. No condition but the bounds that each theorem states.
-/
namespace Go.Proofs.Ytibphmddepfgjaa
open Go.RowKit
attribute [local go_sem ↓] Go.wp_at_zero Go.wp_at_succ

theorem compare_m (p q : Int) (w : World) :
    Calls Try.prog 59 #[.agg #[.int .u64 (p / 18446744073709551616), .int .u64 (p % 18446744073709551616)], .agg #[.int .u64 (q / 18446744073709551616), .int .u64 (q % 18446744073709551616)]] w fun e w' => e = .returned (.int .i64 (sgn p q)) ∧ Below w.heap.size w w' := by
  have h := compare_c (p / 18446744073709551616) (p % 18446744073709551616) (q / 18446744073709551616) (q % 18446744073709551616) (by omega) (by omega) w
  have e1 : p / 18446744073709551616 * 18446744073709551616 + p % 18446744073709551616 = p := by omega
  have e2 : q / 18446744073709551616 * 18446744073709551616 + q % 18446744073709551616 = q := by omega
  rw [e1, e2] at h
  exact h

theorem times_w (x y : Int) (hx0 : 0 ≤ x) (hx : x ≤ 9223372036854775807) (hy0 : 0 ≤ y) (hy : y ≤ 9223372036854775807) (w : World) :
    Calls Try.prog 60 #[.int .u64 (IntKind.u64.wrap x), .int .u64 (IntKind.u64.wrap y)] w fun e w' => e = .returned (.agg #[.int .u64 (x * y / 18446744073709551616), .int .u64 (x * y % 18446744073709551616)]) ∧ Below w.heap.size w w' := by
  have ex : IntKind.u64.wrap x = x := by rw [IntKind.wrap_u64]; omega
  have ey : IntKind.u64.wrap y = y := by rw [IntKind.wrap_u64]; omega
  rw [ex, ey]
  exact times_c x y hx0 (by omega) hy0 (by omega) w

def cmpS (an ad bn bd : Int) : Int := if rightB an ad = true ∧ rightB bn bd = true then sgn (an * bd) (bn * ad) else 0

theorem right_bd {n d : Int} (h : rightB n d = true) : 0 ≤ n ∧ 0 ≤ d := by
  unfold rightB isNever plainR at h
  simp at h
  omega

theorem boxes {w : World} {o1 o2 : Obj} {w1 : World} (hb : Below ((w.alloc o1).alloc o2).heap.size ((w.alloc o1).alloc o2) w1) : Below w.heap.size w w1 := belowT (belowA (belowA (Below.refl _ _) _) _) hb

set_option maxHeartbeats 1000000 in
theorem cmp_no (an ad bn bd : Int) (ha : In64 an ∧ In64 ad) (hb : In64 bn ∧ In64 bd) (h : ¬ (rightB an ad = true ∧ rightB bn bd = true)) (w : World) :
    Calls Try.prog 54 #[.agg #[.int .i64 an, .int .i64 ad], .agg #[.int .i64 bn, .int .i64 bd]] w fun e w' => e = .returned (.int .i64 (cmpS an ad bn bd)) ∧ Below w.heap.size w w' := by
  have hz : cmpS an ad bn bd = 0 := by unfold cmpS; rw [if_neg h]
  have Hz := Lib.hid hz
  clear hz
  by_cases hra : rightB an ad = true
  · have hrb : rightB bn bd = false := by simpa [hra] using h
    clear h
    go_enter Try.func54, Try.ntmps54
    go_wp2_with fail
    refine (right_c an ad ha.1 ha.2 _).mono ?_
    rintro e w1 ⟨rfl, hb1⟩
    have c0 := keepc hb1 (p := ⟨w.heap.size + 1, 0, none⟩) (v := .int .i64 bn) (by go_simp)
    have c1 := keepc hb1 (p := ⟨w.heap.size + 1, 1, none⟩) (v := .int .i64 bd) (by go_simp)
    go_wp2_with fail
    refine (right_c bn bd hb.1 hb.2 _).mono ?_
    rintro e w2 ⟨rfl, hb2⟩
    go_wp2
    go_ret
    exact ⟨ret_int Hz.out.symm, belowT (boxes hb1) hb2⟩
  · have hra' : rightB an ad = false := by simpa using hra
    clear h hra
    go_enter Try.func54, Try.ntmps54
    go_wp2_with fail
    refine (right_c an ad ha.1 ha.2 _).mono ?_
    rintro e w1 ⟨rfl, hb1⟩
    go_wp2
    go_ret
    exact ⟨ret_int Hz.out.symm, boxes hb1⟩

set_option maxHeartbeats 2000000 in
theorem cmp_yes (an ad bn bd : Int) (ha : In64 an ∧ In64 ad) (hb : In64 bn ∧ In64 bd) (hra : rightB an ad = true) (hrb : rightB bn bd = true) (w : World) :
    Calls Try.prog 54 #[.agg #[.int .i64 an, .int .i64 ad], .agg #[.int .i64 bn, .int .i64 bd]] w fun e w' => e = .returned (.int .i64 (sgn (an * bd) (bn * ad))) ∧ Below w.heap.size w w' := by
  obtain ⟨⟨a1, a2⟩, ⟨a3, a4⟩⟩ := ha
  obtain ⟨⟨b1, b2⟩, ⟨b3, b4⟩⟩ := hb
  obtain ⟨a0, d0⟩ := right_bd hra
  obtain ⟨b0, e0⟩ := right_bd hrb
  go_enter Try.func54, Try.ntmps54
  go_wp2_with fail
  refine (right_c an ad ⟨a1, a2⟩ ⟨a3, a4⟩ _).mono ?_
  rintro e w1 ⟨rfl, hb1⟩
  have c0 := keepc hb1 (p := ⟨w.heap.size + 1, 0, none⟩) (v := .int .i64 bn) (by go_simp)
  have c1 := keepc hb1 (p := ⟨w.heap.size + 1, 1, none⟩) (v := .int .i64 bd) (by go_simp)
  have c2 := keepc hb1 (p := ⟨w.heap.size, 0, none⟩) (v := .int .i64 an) (by go_simp)
  have c3 := keepc hb1 (p := ⟨w.heap.size, 1, none⟩) (v := .int .i64 ad) (by go_simp)
  go_wp2_with fail
  refine (right_c bn bd ⟨b1, b2⟩ ⟨b3, b4⟩ _).mono ?_
  rintro e w2 ⟨rfl, hb2⟩
  have g0 := keepc hb2 c0
  have g1 := keepc hb2 c1
  have g2 := keepc hb2 c2
  have g3 := keepc hb2 c3
  have hw := belowT (boxes hb1) hb2
  clear c0 c1 c2 c3 hb1 hb2 w1
  go_wp2_with fail
  go_region_held3 (fun w' => w'.cell? ⟨w.heap.size, 0, none⟩ = some (.int .i64 an) ∧ w'.cell? ⟨w.heap.size, 1, none⟩ = some (.int .i64 ad) ∧ w'.cell? ⟨w.heap.size + 1, 0, none⟩ = some (.int .i64 bn) ∧ w'.cell? ⟨w.heap.size + 1, 1, none⟩ = some (.int .i64 bd))
    (first | (go_split_ands; (repeat' apply And.intro) <;> exact keepc hb (by assumption)) | go_keep)
    (first
      | (go_at_call 60; refine (times_w _ _ (by assumption) (by assumption) (by assumption) (by assumption) _).mono ?_; rintro e w1 ⟨rfl, hb⟩)
      | (go_at_call 59; refine (compare_m _ _ _).mono ?_; rintro e w1 ⟨rfl, hb⟩))
  all_goals go_wp2
  all_goals (go_ret; exact ⟨rfl, (by repeat (first | exact Below.refl _ _ | refine belowN ?_ _ | refine Below.drew ?_ | refine belowA ?_ _ | refine belowT ?_ (by assumption)))⟩)

theorem cmp_c (an ad bn bd : Int) (ha : In64 an ∧ In64 ad) (hb : In64 bn ∧ In64 bd) (w : World) :
    Calls Try.prog 54 #[.agg #[.int .i64 an, .int .i64 ad], .agg #[.int .i64 bn, .int .i64 bd]] w fun e w' => e = .returned (.int .i64 (cmpS an ad bn bd)) ∧ Below w.heap.size w w' := by
  by_cases h : rightB an ad = true ∧ rightB bn bd = true
  · have e : cmpS an ad bn bd = sgn (an * bd) (bn * ad) := by unfold cmpS; rw [if_pos h]
    rw [e]
    exact cmp_yes an ad bn bd ha hb h.1 h.2 w
  · exact cmp_no an ad bn bd ha hb h w
end Go.Proofs.Ytibphmddepfgjaa

/-
  The contracts of package span over this seat's translation, fifth part: size, fit, Make, Whole. No condition but the bounds that each theorem states.
-/
namespace Go.Proofs.Ytibphmddepfgjaa
open Go.RowKit
attribute [local go_sem ↓] Go.wp_at_zero Go.wp_at_succ

/-- What fit answers: the time and the error's number. -/
def fitT (nh nl dh dl : Int) : Int × Int × Int := if 0 < nh ∨ 0 < dh ∨ 9223372036854775807 < nl ∨ 9223372036854775807 < dl then (0, 0, 2) else (nl, dl, 0)
def timeV (t : Int × Int × Int) : Value := .tuple #[.agg #[.int .i64 t.1, .int .i64 t.2.1], .int .i64 t.2.2]

end Go.Proofs.Ytibphmddepfgjaa

/-
  The contracts of package span over this seat's translation, sixth part: Make, Whole. No condition but the bounds that each theorem states.
-/
namespace Go.Proofs.Ytibphmddepfgjaa
open Go.RowKit
attribute [local go_sem ↓] Go.wp_at_zero Go.wp_at_succ

theorem belowS {a w : World} (h : Below a.heap.size a w) {b o : Nat} {r} (hp : a.heap.size ≤ b) (u : Value) : Below a.heap.size a (w.setCell ⟨b, o, r⟩ u) := h.setCell hp u

/-- What Make answers: the time and the error's number. -/
def makeS (n d : Int) : Int × Int × Int :=
  if d = 0 then (0, 0, 3) else if n < 0 ∧ 0 < d ∨ 0 < n ∧ d < 0 then (0, 0, 4) else fitT 0 ((n.natAbs : Int) / (Int.gcd n.natAbs d.natAbs : Int)) 0 ((d.natAbs : Int) / (Int.gcd n.natAbs d.natAbs : Int))

theorem quo_w (x g : Int) (hx : 0 ≤ x) (hx2 : x ≤ 18446744073709551615) (hg : 1 ≤ g) : 0 ≤ x / g ∧ x / g ≤ 18446744073709551615 := by
  refine ⟨Int.ediv_nonneg hx (by omega), ?_⟩
  have := Int.ediv_le_self (a := x) g hx
  omega

theorem quo_e (x g : Int) (hx : 0 ≤ x) (hx2 : x ≤ 18446744073709551615) (hg : 1 ≤ g) : IntKind.u64.wrap (x.tdiv g) = x / g := by
  have h := quo_w x g hx hx2 hg
  rw [Int.tdiv_eq_ediv_of_nonneg hx, IntKind.wrap_u64]
  omega

end Go.Proofs.Ytibphmddepfgjaa

/-
  A returned text (what the texts behind SpanG want of it, for a seat whose own awake is another). No condition.
-/
namespace Go.Proofs.Ytibphmddepfgjaa
open Go.RowKit

theorem ret_str {a b : ByteArray} (h : a = b) : Ending.returned (.string a) = .returned (.string b) := by rw [h]
end Go.Proofs.Ytibphmddepfgjaa
