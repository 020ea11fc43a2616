/-
  The contract of the law SpanMins over this seat's translation: whatever slice of times it is handed, it answers true. Conditions: those that each theorem states.
-/
import Derived.Test.YthdadpafankbfaaDoorRefS
import Derived.Test.YthdadpafankbfaaDoorMinC
import Derived.Test.YthdadpafankbfaaDoorMinD
namespace Go.Proofs.YthdadpafankbfaaDoor
open Go.RowKit
attribute [local go_sem ↓] Go.wp_at_zero Go.wp_at_succ

set_option maxHeartbeats 2000000 in
theorem mins_zero (x : Option Addr) (cap : Nat) (w : World) :
    Calls Tryd.prog 8 #[.slice x 0 cap] w fun e w' => e = .returned (.bool true) ∧ Below w.heap.size w w' := by
  go_enter Tryd.func8, Tryd.ntmps8
  go_wp2_with fail
  refine wp_loop_rounds 1 ?_
  rw [rounds_succ]
  go_wp2_with fail
  go_region_held3 (fun w' => w'.cell? ⟨w.heap.size, 0, none⟩ = some (.int .i64 1) ∧ w'.cell? ⟨w.heap.size, 1, none⟩ = some (.int .i64 0))
    (first | (go_split_ands; exact ⟨keepc hb (by assumption), keepc hb (by assumption)⟩) | go_keep)
    (first
      | (go_at_call 14; refine (awake_c _).mono ?_; rintro e w6 ⟨rfl, hb⟩)
      | (go_at_call 26; refine (min_zero _ _ _).mono ?_; rintro e w6 ⟨rfl, hb⟩))
  all_goals go_wp2
  all_goals go_ret
  all_goals exact ⟨ret_bool (by simp), (by repeat (first | with_reducible assumption | with_reducible exact Below.refl _ _ | with_reducible refine belowN ?_ _ | with_reducible refine Below.drew ?_ | with_reducible refine belowA ?_ _ | with_reducible refine belowT ?_ (by assumption)))⟩

def MinsRel (w : World) (f : Nat → Int × Int) (len : Nat) (vk : Value) (wr : World) : Prop :=
  ∃ k : Nat, vk = .int .i64 k ∧ k ≤ len ∧ wr.cell? ⟨w.heap.size, 0, none⟩ = some (.int .i64 (minTo f k).1) ∧ wr.cell? ⟨w.heap.size, 1, none⟩ = some (.int .i64 (minTo f k).2) ∧
      wr.frozen? ⟨w.heap.size, 0, none⟩ = false ∧ wr.frozen? ⟨w.heap.size, 1, none⟩ = false ∧ Below w.heap.size w wr

set_option maxHeartbeats 40000000 in
theorem mins_w (b off len cap : Nat) (f : Nat → Int × Int) (hl : len ≤ 1000) (hf : ∀ i, i < len → In64 (f i).1 ∧ In64 (f i).2) (w : World) (hT : TimesAt w b off len f) :
    Calls Tryd.prog 8 #[.slice (some ⟨b, off, none⟩) len cap] w fun e w' => e = .returned (.bool true) ∧ Below w.heap.size w w' := by
  have HT := Lib.hid hT
  have HF := Lib.hid hf
  clear hT hf
  go_enter Tryd.func8, Tryd.ntmps8
  go_wp2_with fail
  go_loopw [4] (fun vk wr => MinsRel w f len vk wr) (fun vk _ => len - (intOf vk).toNat)
  case atStart => exact ⟨0, rfl, Nat.zero_le _, by go_simp; rfl, by go_simp; rfl, by go_simp, by go_simp, belowA (Below.refl _ _) _⟩
  case round =>
    obtain ⟨k, rfl, hk, m0, m1, n0, n1, hbl⟩ := hrel
    by_cases hlt2 : k < len
    · have hki : (k : Int) < (len : Int) := by omega
      have hTk := (TimesAt.keep HT.out hbl) k hlt2
      obtain ⟨t0, t1⟩ := hTk
      have fin := HF.out k hlt2
      have mi := minTo_in f len HF.out k hk
      have hs1 : cmpS (f k).1 (f k).2 (minTo f k).1 (minTo f k).2 < 0 → (minTo f (k + 1)).1 = (f k).1 ∧ (minTo f (k + 1)).2 = (f k).2 := fun h => by rw [minTo_yes f k h]; exact ⟨rfl, rfl⟩
      have hs2 : ¬ cmpS (f k).1 (f k).2 (minTo f k).1 (minTo f k).2 < 0 → (minTo f (k + 1)).1 = (minTo f k).1 ∧ (minTo f (k + 1)).2 = (minTo f k).2 := fun h => by rw [minTo_no f k h]; exact ⟨rfl, rfl⟩
      have kr := rright_c (f k).1 (f k).2 fin.1 fin.2
      have kc := rcmp_c (f k).1 (f k).2 (minTo f k).1 (minTo f k).2 fin mi
      have hno : rightB (f k).1 (f k).2 = false → cmpS (f k).1 (f k).2 (minTo f k).1 (minTo f k).2 = 0 := fun h => by unfold cmpS; rw [if_neg (by simp [h])]
      generalize (minTo f k).1 = mn at *
      generalize (minTo f k).2 = md at *
      generalize (f k).1 = tn at *
      generalize (f k).2 = td at *
      generalize cmpS tn td mn md = c at *
      generalize rightB tn td = r at *
      have KR := Lib.hid kr
      have KC := Lib.hid kc
      have HS1 := Lib.hid hs1
      have HS2 := Lib.hid hs2
      have HNO := Lib.hid hno
      clear kr kc hs1 hs2 hno fin mi
      have hq0 : ¬ b = w.heap.size := fun e => by
        have := World.block_lt_of_cell? w _ (HT.out k hlt2).1
        simp at this
        omega
      cases r with
      | true =>
        go_wp2_with fail
        go_region_held3 (fun w' => w'.cell? ⟨b, off + k * 2, none⟩ = some (.int .i64 tn) ∧ w'.cell? ⟨b, off + k * 2 + 1, none⟩ = some (.int .i64 td) ∧ w'.cell? ⟨w.heap.size, 0, none⟩ = some (.int .i64 mn) ∧ w'.cell? ⟨w.heap.size, 1, none⟩ = some (.int .i64 md) ∧ w'.frozen? ⟨w.heap.size, 0, none⟩ = false ∧ w'.frozen? ⟨w.heap.size, 1, none⟩ = false ∧ Below w.heap.size w w')
          (first | exact ⟨t0, t1, m0, m1, n0, n1, Below.drew hbl⟩ | (go_split_ands; exact ⟨keepc hb (by assumption), keepc hb (by assumption), keepc hb (by assumption), keepc hb (by assumption), keepf hb (by assumption) (by assumption), keepf hb (by assumption) (by assumption), belowT (by assumption) hb⟩) | go_keep)
          (first
            | (go_at_call 24; refine (KR.out _).mono ?_; rintro e w6 ⟨rfl, hb⟩)
            | (go_at_call 25; refine (KC.out _).mono ?_; rintro e w6 ⟨rfl, hb⟩))
        go_split_ands
        by_cases hc : c < 0
        · obtain ⟨g1, g2⟩ := HS1.out hc
          have G1 := Lib.hid g1
          have G2 := Lib.hid g2
          clear g1 g2 t0 t1 m0 m1 n0 n1 hbl
          go_wp2
          go_roundw
          case rel =>
            refine ⟨k + 1, by go_num, by omega, ?_, ?_, ?_, ?_, ?_⟩
            · rw [G1.out]; go_simp
            · rw [G2.out]; go_simp
            · go_simp
            · go_simp
            · repeat (first | assumption | refine Below.drew ?_ | refine belowS ?_ (Nat.le_refl _) _)
          case measure => simp [intOf]; omega
        · obtain ⟨g1, g2⟩ := HS2.out (by omega)
          have G1 := Lib.hid g1
          have G2 := Lib.hid g2
          clear g1 g2 t0 t1 m0 m1 n0 n1 hbl
          go_wp2
          go_roundw
          case rel => exact ⟨k + 1, by go_num, by omega, by rw [G1.out]; assumption, by rw [G2.out]; assumption, by assumption, by assumption, by repeat (first | assumption | refine Below.drew ?_)⟩
          case measure => simp [intOf]; omega
      | false =>
        have hc0 := HNO.out rfl
        subst hc0
        obtain ⟨g1, g2⟩ := HS2.out (by omega)
        have G1 := Lib.hid g1
        have G2 := Lib.hid g2
        clear g1 g2
        go_wp2_with fail
        first | go_region_with (first | (go_at_call 24; refine (KR.out _).mono ?_; rintro e w6 ⟨rfl, hb⟩)) | fail
        all_goals (
          have hx : Below wr.heap.size wr w6 := (by repeat (first | with_reducible assumption | with_reducible exact Below.refl _ _ | with_reducible refine belowN ?_ _ | with_reducible refine Below.drew ?_ | with_reducible refine belowA ?_ _ | with_reducible refine belowT ?_ (by assumption)))
          have M0 := keepc hx m0
          have M1 := keepc hx m1
          have N0 := keepf hx m0 n0
          have N1 := keepf hx m1 n1
          have HB := belowT hbl hx
          clear hb hx m0 m1 n0 n1 hbl t0 t1
          go_wp2
          go_roundw
          case rel => exact ⟨k + 1, by go_num, by omega, by rw [G1.out]; exact M0, by rw [G2.out]; exact M1, N0, N1, HB⟩
          case measure => simp [intOf]; omega)
    · have hkl : k = len := by omega
      subst hkl
      go_wp2_with fail
      go_region_held3 (fun w' => w'.cell? ⟨w.heap.size, 0, none⟩ = some (.int .i64 (minTo f k).1) ∧ w'.cell? ⟨w.heap.size, 1, none⟩ = some (.int .i64 (minTo f k).2) ∧ Below w.heap.size w w')
        (first | exact ⟨m0, m1, Below.drew hbl⟩ | (go_split_ands; exact ⟨keepc hb (by assumption), keepc hb (by assumption), belowT (by assumption) hb⟩) | go_keep)
        (first
          | (go_at_call 14; refine (awake_c _).mono ?_; rintro e w6 ⟨rfl, hb⟩)
          | (go_at_call 26; refine (min_c b off k cap f (by omega) HF.out _ (TimesAt.keep HT.out ?_)).mono ?_; (focus (go_split_ands; assumption)); rintro e w6 ⟨rfl, hb⟩))
      all_goals go_split_ands
      all_goals go_wp2
      all_goals go_ret
      all_goals exact ⟨ret_bool (by simp), (by repeat (first | with_reducible assumption | with_reducible exact Below.refl _ _ | with_reducible refine belowN ?_ _ | with_reducible refine Below.drew ?_ | with_reducible refine belowA ?_ _ | with_reducible refine belowT ?_ (by assumption)))⟩

theorem mins_c (b off len cap : Nat) (f : Nat → Int × Int) (hl2 : len ≤ 9223372036854775807) (hf : ∀ i, i < len → In64 (f i).1 ∧ In64 (f i).2) (w : World) (hT : TimesAt w b off len f) :
    Calls Tryd.prog 8 #[.slice (some ⟨b, off, none⟩) len cap] w fun e w' => e = .returned (.bool true) ∧ Below w.heap.size w w' := by
  by_cases hl : len ≤ 1000
  · exact mins_w b off len cap f hl hf w hT
  · have h2 : (1000 : Int) < (len : Int) := by omega
    clear hT hf
    go_enter Tryd.func8, Tryd.ntmps8
    go_wp2_with fail
    refine (awake_c _).mono ?_
    rintro e w1 ⟨rfl, hb1⟩
    go_wp2
    go_ret
    exact ⟨ret_bool rfl, hb1⟩
end Go.Proofs.YthdadpafankbfaaDoor
