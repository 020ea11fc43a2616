/-
  The contract of package span's Min over this seat's translation: a slice of times that is read. Conditions: the cells hold ints.
-/
import Derived.Test.YthdadpafankbfaaDoorSpanD
import Derived.Test.YthdadpafankbfaaDoorSpanF
namespace Go.Proofs.YthdadpafankbfaaDoor
open Go.RowKit
attribute [local go_sem ↓] Go.wp_at_zero Go.wp_at_succ

/-- The least of times that are right, of those ahead of place k; the one without an end, if there is none. -/
def minTo (f : Nat → Int × Int) : Nat → Int × Int
  | 0 => (1, 0)
  | k + 1 => if cmpS (f k).1 (f k).2 (minTo f k).1 (minTo f k).2 < 0 then f k else minTo f k

theorem minTo_yes (f : Nat → Int × Int) (k : Nat) (h : cmpS (f k).1 (f k).2 (minTo f k).1 (minTo f k).2 < 0) : minTo f (k + 1) = f k := by simp only [minTo]; rw [if_pos h]
theorem minTo_no (f : Nat → Int × Int) (k : Nat) (h : ¬ cmpS (f k).1 (f k).2 (minTo f k).1 (minTo f k).2 < 0) : minTo f (k + 1) = minTo f k := by simp only [minTo]; rw [if_neg h]
theorem minTo_in (f : Nat → Int × Int) (n : Nat) (hf : ∀ i, i < n → In64 (f i).1 ∧ In64 (f i).2) : ∀ k, k ≤ n → In64 (minTo f k).1 ∧ In64 (minTo f k).2
  | 0, _ => ⟨⟨by simp [minTo], by simp [minTo]⟩, by simp [minTo], by simp [minTo]⟩
  | k + 1, h => by
    by_cases hc : cmpS (f k).1 (f k).2 (minTo f k).1 (minTo f k).2 < 0
    · rw [minTo_yes f k hc]; exact hf k (by omega)
    · rw [minTo_no f k hc]; exact minTo_in f n hf k (by omega)

/-- What is read of a slice of times: two cells a time. -/
def TimesAt (w : World) (b off n : Nat) (f : Nat → Int × Int) : Prop := ∀ i, i < n → w.cell? ⟨b, off + i * 2, none⟩ = some (.int .i64 (f i).1) ∧ w.cell? ⟨b, off + i * 2 + 1, none⟩ = some (.int .i64 (f i).2)
theorem TimesAt.keep {w w' : World} {b off n : Nat} {f : Nat → Int × Int} (k : TimesAt w b off n f) (h : Below w.heap.size w w') : TimesAt w' b off n f := fun i hi => ⟨keepc h (k i hi).1, keepc h (k i hi).2⟩

set_option maxHeartbeats 2000000 in
theorem min_c (b off len cap : Nat) (f : Nat → Int × Int) (hl : len ≤ 9223372036854775807) (hf : ∀ i, i < len → In64 (f i).1 ∧ In64 (f i).2) (w : World) (hT : TimesAt w b off len f) :
    Calls Tryd.prog 26 #[.slice (some ⟨b, off, none⟩) len cap] w fun e w' => e = .returned (.agg #[.int .i64 (minTo f len).1, .int .i64 (minTo f len).2]) ∧ Below w.heap.size w w' := by
  have HT := Lib.hid hT
  have HF := Lib.hid hf
  clear hT hf
  go_enter Tryd.func26, Tryd.ntmps26
  go_wp2_with fail
  refine (never_c _).mono ?_
  rintro e w1 ⟨rfl, hb1⟩
  have r0 := keepc hb1 (p := ⟨w.heap.size, 0, none⟩) (v := .int .i64 0) (by go_simp)
  have r1 := keepc hb1 (p := ⟨w.heap.size, 1, none⟩) (v := .int .i64 0) (by go_simp)
  have z0 : w1.frozen? ⟨w.heap.size, 0, none⟩ = false := keepf hb1 (p := ⟨w.heap.size, 0, none⟩) (v := .int .i64 0) (by go_simp) (by go_simp)
  have z1 : w1.frozen? ⟨w.heap.size, 1, none⟩ = false := keepf hb1 (p := ⟨w.heap.size, 1, none⟩) (v := .int .i64 0) (by go_simp) (by go_simp)
  have hw := belowT (belowA (Below.refl _ w) _) hb1
  have hlt : w.heap.size < w1.heap.size := World.block_lt_of_cell? w1 _ r0
  clear hb1
  go_wp2_with fail
  have hq := belowA (Below.refl _ w1) (.cells #[.int .i64 1, .int .i64 0] 23)
  go_loopw [9] (fun vk wr => ∃ k : Nat, vk = .int .i64 k ∧ k ≤ len ∧ wr.cell? ⟨w1.heap.size, 0, none⟩ = some (.int .i64 (minTo f k).1) ∧ wr.cell? ⟨w1.heap.size, 1, none⟩ = some (.int .i64 (minTo f k).2) ∧
      wr.frozen? ⟨w1.heap.size, 0, none⟩ = false ∧ wr.frozen? ⟨w1.heap.size, 1, none⟩ = false ∧
      wr.cell? ⟨w.heap.size, 0, none⟩ = some (.int .i64 0) ∧ wr.cell? ⟨w.heap.size, 1, none⟩ = some (.int .i64 0) ∧ wr.frozen? ⟨w.heap.size, 0, none⟩ = false ∧ wr.frozen? ⟨w.heap.size, 1, none⟩ = false ∧ Below w.heap.size w wr)
    (fun vk _ => len - (intOf vk).toNat)
  case atStart =>
    exact ⟨0, rfl, Nat.zero_le _, by go_simp; rfl, by go_simp; rfl, by go_simp, by go_simp, keepc hq r0, keepc hq r1, keepf hq r0 z0, keepf hq r1 z1, belowT hw hq⟩
  case round =>
    obtain ⟨k, rfl, hk, m0, m1, n0, n1, q0, q1, y0, y1, hbl⟩ := hrel
    clear hq r0 r1 z0 z1 hw
    by_cases hlt2 : k < len
    · have hTk := (TimesAt.keep HT.out hbl) k hlt2
      obtain ⟨t0, t1⟩ := hTk
      have fin := HF.out k hlt2
      have mi := minTo_in f len HF.out k hk
      have hs1 : cmpS (f k).1 (f k).2 (minTo f k).1 (minTo f k).2 < 0 → (minTo f (k + 1)).1 = (f k).1 ∧ (minTo f (k + 1)).2 = (f k).2 := fun h => by rw [minTo_yes f k h]; exact ⟨rfl, rfl⟩
      have hs2 : ¬ cmpS (f k).1 (f k).2 (minTo f k).1 (minTo f k).2 < 0 → (minTo f (k + 1)).1 = (minTo f k).1 ∧ (minTo f (k + 1)).2 = (minTo f k).2 := fun h => by rw [minTo_no f k h]; exact ⟨rfl, rfl⟩
      have kc := cmp_c (f k).1 (f k).2 (minTo f k).1 (minTo f k).2 fin mi
      generalize (minTo f k).1 = mn at *
      generalize (minTo f k).2 = md at *
      generalize hfk : f k = tk at *
      obtain ⟨tn, td⟩ := tk
      generalize hcq : cmpS tn td mn md = c at *
      have KC := Lib.hid kc
      have HS1 := Lib.hid hs1
      have HS2 := Lib.hid hs2
      have HFK := Lib.hid hfk
      clear kc hs1 hs2 hfk fin mi
      have hq := belowA (Below.refl _ wr) (.cells #[.int .i64 tn, .int .i64 td] 23)
      have a0 := keepc hq m0
      have a1 := keepc hq m1
      have hMlt : w1.heap.size < wr.heap.size := World.block_lt_of_cell? wr _ m0
      have HQ := Lib.hid hq
      clear hq
      go_wp2_with fail
      refine (KC.out _).mono ?_
      rintro e w3 ⟨rfl, hb3⟩
      have x0 := keepc hb3 (p := ⟨wr.heap.size, 0, none⟩) (v := .int .i64 tn) (by go_simp)
      have x1 := keepc hb3 (p := ⟨wr.heap.size, 1, none⟩) (v := .int .i64 td) (by go_simp)
      have hx := belowT HQ.out hb3
      replace n0 := keepf hx m0 n0
      replace n1 := keepf hx m1 n1
      replace m0 := keepc hx m0
      replace m1 := keepc hx m1
      replace y0 := keepf hx q0 y0
      replace y1 := keepf hx q1 y1
      replace q0 := keepc hx q0
      replace q1 := keepc hx q1
      have hbl3 := belowT hbl hx
      clear hb3 hx a0 a1 t0 t1 hbl
      by_cases hc : c < 0
      · obtain ⟨g1, g2⟩ := HS1.out hc
        have G1 := Lib.hid g1
        have G2 := Lib.hid g2
        clear g1 g2
        go_wp2
        go_roundw
        case rel =>
          refine ⟨k + 1, by go_num, by omega, ?_, ?_, ?_, ?_, ?_, ?_, ?_, ?_, ?_⟩
          · rw [G1.out]; go_simp
          · rw [G2.out]; go_simp
          all_goals first | (go_simp; done) | (repeat (first | exact Below.refl _ _ | refine belowN ?_ _ | refine Below.drew ?_ | refine belowA ?_ _ | refine belowS ?_ (by omega) _ | assumption | refine belowT ?_ (by assumption)))
        case measure => simp [intOf]; omega
      · obtain ⟨g1, g2⟩ := HS2.out (by omega)
        have G1 := Lib.hid g1
        have G2 := Lib.hid g2
        clear g1 g2
        go_wp2
        go_roundw
        case rel => exact ⟨k + 1, by go_num, by omega, by rw [G1.out]; exact m0, by rw [G2.out]; exact m1, n0, n1, q0, q1, y0, y1, hbl3⟩
        case measure => simp [intOf]; omega
    · have hkl : k = len := by omega
      subst hkl
      go_wp2
      exact bodyPost_ret (v := .agg #[.int .i64 (minTo f k).1, .int .i64 (minTo f k).2]) (by simp [results, Tryd.results26, go_sem, q0, q1]) rfl ⟨rfl, by (repeat (first | exact Below.refl _ _ | refine belowN ?_ _ | refine Below.drew ?_ | refine belowA ?_ _ | refine belowS ?_ (by omega) _ | assumption | refine belowT ?_ (by assumption)))⟩

set_option maxHeartbeats 1000000 in
theorem min_nil (w : World) :
    Calls Tryd.prog 26 #[.slice none 0 0] w fun e w' => e = .returned (.agg #[.int .i64 1, .int .i64 0]) ∧ Below w.heap.size w w' := by
  go_enter Tryd.func26, Tryd.ntmps26
  go_wp2_with fail
  refine (never_c _).mono ?_
  rintro e w1 ⟨rfl, hb1⟩
  have hq := belowA (Below.refl _ w1) (.cells #[.int .i64 1, .int .i64 0] 23)
  have r0 := keepc hb1 (p := ⟨w.heap.size, 0, none⟩) (v := .int .i64 0) (by go_simp)
  have r1 := keepc hb1 (p := ⟨w.heap.size, 1, none⟩) (v := .int .i64 0) (by go_simp)
  have z0 : w1.frozen? ⟨w.heap.size, 0, none⟩ = false := keepf hb1 (p := ⟨w.heap.size, 0, none⟩) (v := .int .i64 0) (by go_simp) (by go_simp)
  have z1 : w1.frozen? ⟨w.heap.size, 1, none⟩ = false := keepf hb1 (p := ⟨w.heap.size, 1, none⟩) (v := .int .i64 0) (by go_simp) (by go_simp)
  have hw := belowT (belowA (Below.refl _ w) _) hb1
  have r0' := keepc hq r0
  have r1' := keepc hq r1
  have z0' := keepf hq r0 z0
  have z1' := keepf hq r1 z1
  clear hb1 r0 r1 z0 z1
  go_wp2_with fail
  refine wp_loop_rounds 1 ?_
  rw [rounds_succ]
  go_wp2
  exact bodyPost_ret (v := .agg #[.int .i64 1, .int .i64 0]) (by simp [results, Tryd.results26, go_sem, r0', r1']) rfl ⟨rfl, by (repeat (first | exact Below.refl _ _ | refine belowN ?_ _ | refine Below.drew ?_ | refine belowA ?_ _ | refine belowS ?_ (by omega) _ | assumption | refine belowT ?_ (by assumption)))⟩
end Go.Proofs.YthdadpafankbfaaDoor
