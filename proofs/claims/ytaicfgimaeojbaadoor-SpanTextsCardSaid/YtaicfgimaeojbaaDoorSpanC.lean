/-
  The contracts of package span over this seat's translation, third part: Never, Right, Cmp. No condition but the bounds that each theorem states.
-/
import Derived.Test.YtaicfgimaeojbaaDoorSpanB
namespace Go.Proofs.YtaicfgimaeojbaaDoor
open Go.RowKit
attribute [local go_sem ↓] Go.wp_at_zero Go.wp_at_succ

theorem keepc {w w' : World} (h : Below w.heap.size w w') {p : Addr} {v : Value} (hc : w.cell? p = some v) : w'.cell? p = some v := (h.cell (World.block_lt_of_cell? w _ hc)).trans hc
theorem keepf {w w' : World} (h : Below w.heap.size w w') {p : Addr} {v : Value} (hc : w.cell? p = some v) {b : Bool} (hf : w.frozen? p = b) : w'.frozen? p = b := (h.frozen (World.block_lt_of_cell? w _ hc)).trans hf

theorem never_c (w : World) :
    Calls Tryd.prog 12 #[] w fun e w' => e = .returned (.agg #[.int .i64 1, .int .i64 0]) ∧ Below w.heap.size w w' := by
  go_enter Tryd.func12, Tryd.ntmps12
  go_wp2
  exact bodyPost_ret (v := .agg #[.int .i64 1, .int .i64 0]) (by simp [results, Tryd.results12, go_sem]) rfl ⟨rfl, (Below.refl _ _).alloc (Nat.le_refl _) _⟩

/-- Is a time right? -/
def isNever (n d : Int) : Prop := n = 1 ∧ d = 0
def plainR (n d : Int) : Prop := 0 < d ∧ 0 ≤ n ∧ Int.gcd n d = 1
instance (n d : Int) : Decidable (isNever n d) := by unfold isNever; infer_instance
instance (n d : Int) : Decidable (plainR n d) := by unfold plainR; infer_instance
def rightB (n d : Int) : Bool := decide (isNever n d ∨ plainR n d)

theorem right_never : rightB 1 0 = true := by decide
theorem right_d (n d : Int) (h : ¬ isNever n d) (hd : ¬ 0 < d) : rightB n d = false := by unfold rightB plainR; simp [h, hd]
theorem right_n (n d : Int) (h : ¬ isNever n d) (hn : ¬ 0 ≤ n) : rightB n d = false := by unfold rightB plainR; simp [h, hn]
theorem right_g (n d : Int) (h : ¬ isNever n d) (hd : 0 < d) (hn : 0 ≤ n) : rightB n d = ((Int.gcd n d : Int) == 1) := by
  unfold rightB plainR
  rw [Bool.eq_iff_iff]
  simp [h, hd, hn]
  omega

abbrev In64 (x : Int) : Prop := -9223372036854775808 ≤ x ∧ x ≤ 9223372036854775807

theorem ret_bool {a b : Bool} (h : a = b) : Ending.returned (.bool a) = .returned (.bool b) := by rw [h]

set_option maxHeartbeats 1000000 in
theorem right_one (d : Int) (hd : In64 d) (h : ¬ isNever 1 d) (w : World) :
    Calls Tryd.prog 11 #[.agg #[.int .i64 1, .int .i64 d]] w fun e w' => e = .returned (.bool (rightB 1 d)) ∧ Below w.heap.size w w' := by
  have hd0 : (d == 0) = false := by
    unfold isNever at h
    simpa using h
  have hn1 : (0 : Int) ≤ 1 := by omega
  obtain ⟨hd1, hd2⟩ := hd
  by_cases hdp : 0 < d
  · have hrg := right_g 1 d h hdp (by omega)
    have Hrg := Lib.hid hrg
    clear hrg
    go_enter Tryd.func11, Tryd.ntmps11
    go_wp2_with fail
    go_region_held3 (fun w' => w'.cell? ⟨w.heap.size, 0, none⟩ = some (.int .i64 1) ∧ w'.cell? ⟨w.heap.size, 1, none⟩ = some (.int .i64 d))
      (first | (go_split_ands; (repeat' apply And.intro) <;> exact keepc hb (by assumption)) | go_keep)
      (first | (go_at_call 12; refine (never_c _).mono ?_; rintro e w1 ⟨rfl, hb⟩))
    go_wp2_with (go_at_call 23; refine (gcd_c _ _ (by omega) (by omega) (by omega) (by omega) _).mono ?_; rintro e w2 ⟨rfl, hb2⟩)
    go_ret
    exact ⟨ret_bool (by rw [Hrg.out]; simp), (by repeat (first | exact Below.refl _ _ | refine belowN ?_ _ | refine Below.drew ?_ | refine belowA ?_ _ | refine belowT ?_ (by assumption)))⟩
  · have hrg := right_d 1 d h hdp
    have Hrg := Lib.hid hrg
    clear hrg
    go_enter Tryd.func11, Tryd.ntmps11
    go_wp2_with fail
    go_region_held3 (fun w' => w'.cell? ⟨w.heap.size, 0, none⟩ = some (.int .i64 1) ∧ w'.cell? ⟨w.heap.size, 1, none⟩ = some (.int .i64 d))
      (first | (go_split_ands; (repeat' apply And.intro) <;> exact keepc hb (by assumption)) | go_keep)
      (first | (go_at_call 12; refine (never_c _).mono ?_; rintro e w1 ⟨rfl, hb⟩))
    go_wp2
    go_ret
    exact ⟨ret_bool Hrg.out.symm, (by repeat (first | exact Below.refl _ _ | refine belowN ?_ _ | refine Below.drew ?_ | refine belowA ?_ _ | refine belowT ?_ (by assumption)))⟩

set_option maxHeartbeats 1000000 in
theorem right_not (n d : Int) (hn : In64 n) (hd : In64 d) (h1 : ¬ n = 1) (h : ¬ isNever n d) (w : World) :
    Calls Tryd.prog 11 #[.agg #[.int .i64 n, .int .i64 d]] w fun e w' => e = .returned (.bool (rightB n d)) ∧ Below w.heap.size w w' := by
  have hn0 : (n == 1) = false := by simpa using h1
  obtain ⟨hn1, hn2⟩ := hn
  obtain ⟨hd1, hd2⟩ := hd
  by_cases hdp : 0 < d
  · by_cases hnp : 0 ≤ n
    · have hrg := right_g n d h hdp hnp
      have Hrg := Lib.hid hrg
      clear hrg
      go_enter Tryd.func11, Tryd.ntmps11
      go_wp2_with fail
      go_region_held3 (fun w' => w'.cell? ⟨w.heap.size, 0, none⟩ = some (.int .i64 n) ∧ w'.cell? ⟨w.heap.size, 1, none⟩ = some (.int .i64 d))
        (first | (go_split_ands; (repeat' apply And.intro) <;> exact keepc hb (by assumption)) | go_keep)
        (first | (go_at_call 12; refine (never_c _).mono ?_; rintro e w1 ⟨rfl, hb⟩))
      go_wp2_with (go_at_call 23; refine (gcd_c _ _ (by omega) (by omega) (by omega) (by omega) _).mono ?_; rintro e w2 ⟨rfl, hb2⟩)
      go_ret
      exact ⟨ret_bool Hrg.out.symm, (by repeat (first | exact Below.refl _ _ | refine belowN ?_ _ | refine Below.drew ?_ | refine belowA ?_ _ | refine belowT ?_ (by assumption)))⟩
    · have hrg := right_n n d h hnp
      have Hrg := Lib.hid hrg
      clear hrg
      go_enter Tryd.func11, Tryd.ntmps11
      go_wp2_with fail
      go_region_held3 (fun w' => w'.cell? ⟨w.heap.size, 0, none⟩ = some (.int .i64 n) ∧ w'.cell? ⟨w.heap.size, 1, none⟩ = some (.int .i64 d))
        (first | (go_split_ands; (repeat' apply And.intro) <;> exact keepc hb (by assumption)) | go_keep)
        (first | (go_at_call 12; refine (never_c _).mono ?_; rintro e w1 ⟨rfl, hb⟩))
      go_wp2
      go_ret
      exact ⟨ret_bool Hrg.out.symm, (by repeat (first | exact Below.refl _ _ | refine belowN ?_ _ | refine Below.drew ?_ | refine belowA ?_ _ | refine belowT ?_ (by assumption)))⟩
  · have hrg := right_d n d h hdp
    have Hrg := Lib.hid hrg
    clear hrg
    go_enter Tryd.func11, Tryd.ntmps11
    go_wp2_with fail
    go_region_held3 (fun w' => w'.cell? ⟨w.heap.size, 0, none⟩ = some (.int .i64 n) ∧ w'.cell? ⟨w.heap.size, 1, none⟩ = some (.int .i64 d))
      (first | (go_split_ands; (repeat' apply And.intro) <;> exact keepc hb (by assumption)) | go_keep)
      (first | (go_at_call 12; refine (never_c _).mono ?_; rintro e w1 ⟨rfl, hb⟩))
    go_wp2
    go_ret
    exact ⟨ret_bool Hrg.out.symm, (by repeat (first | exact Below.refl _ _ | refine belowN ?_ _ | refine Below.drew ?_ | refine belowA ?_ _ | refine belowT ?_ (by assumption)))⟩

set_option maxHeartbeats 1000000 in
theorem right_c (n d : Int) (hn : In64 n) (hd : In64 d) (w : World) :
    Calls Tryd.prog 11 #[.agg #[.int .i64 n, .int .i64 d]] w fun e w' => e = .returned (.bool (rightB n d)) ∧ Below w.heap.size w w' := by
  obtain ⟨hn1, hn2⟩ := hn
  obtain ⟨hd1, hd2⟩ := hd
  by_cases h : isNever n d
  · have H := h
    obtain ⟨rfl, rfl⟩ := h
    go_enter Tryd.func11, Tryd.ntmps11
    go_wp2_with fail
    go_region_held3 (fun w' => w'.cell? ⟨w.heap.size, 0, none⟩ = some (.int .i64 1) ∧ w'.cell? ⟨w.heap.size, 1, none⟩ = some (.int .i64 0))
      (first | (go_split_ands; (repeat' apply And.intro) <;> exact keepc hb (by assumption)) | go_keep)
      (first | (go_at_call 12; refine (never_c _).mono ?_; rintro e w1 ⟨rfl, hb⟩))
    go_wp2
    go_ret
    exact ⟨ret_bool right_never.symm, (by repeat (first | exact Below.refl _ _ | refine belowN ?_ _ | refine Below.drew ?_ | refine belowA ?_ _ | refine belowT ?_ (by assumption)))⟩
  · by_cases h1 : n = 1
    · subst h1
      have hd0 : (d == 0) = false := by
        unfold isNever at h
        simpa using h
      exact right_one d ⟨hd1, hd2⟩ h w
    · exact right_not n d ⟨hn1, hn2⟩ ⟨hd1, hd2⟩ h1 h w
end Go.Proofs.YtaicfgimaeojbaaDoor
