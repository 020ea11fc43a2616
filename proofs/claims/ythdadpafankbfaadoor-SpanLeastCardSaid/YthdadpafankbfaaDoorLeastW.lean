/-
  The walk of the law SpanLeast over this seat's translation: whatever slice of times it is handed, it answers true. Conditions: those that each theorem states.
-/
import Derived.Test.YthdadpafankbfaaDoorSpanMath3
import Derived.Test.YthdadpafankbfaaDoorSpanG
namespace Go.Proofs.YthdadpafankbfaaDoor
open Go.RowKit
attribute [local go_sem ↓] Go.wp_at_zero Go.wp_at_succ

def LeastCut (w : World) (b o M : Nat) (tn td mn md : Int) (s : Value) (wx : World) : Prop := s = .bool false ∧ wx.cell? ⟨b, o, none⟩ = some (.int .i64 tn) ∧ wx.cell? ⟨b, o + 1, none⟩ = some (.int .i64 td) ∧ wx.cell? ⟨M, 0, none⟩ = some (.int .i64 mn) ∧ wx.cell? ⟨M, 1, none⟩ = some (.int .i64 md) ∧ Below w.heap.size w wx

set_option maxHeartbeats 1000000 in
theorem least_long (b off len cap : Nat) (hl : 1000 < len) (hl2 : len ≤ 9223372036854775807) (w : World) :
    Calls Tryd.prog 11 #[.slice (some ⟨b, off, none⟩) len cap] w fun e w' => e = .returned (.bool true) ∧ Below w.heap.size w w' := by
  have hl3 : (1000 : Int) < (len : Int) := by omega
  go_enter Tryd.func11, Tryd.ntmps11
  go_wp2_with fail
  refine (awake_c _).mono ?_
  rintro e w1 ⟨rfl, hb1⟩
  go_wp2_with fail
  refine (awake_c _).mono ?_
  rintro e w2 ⟨rfl, hb2⟩
  go_wp2
  go_ret
  exact ⟨ret_bool rfl, belowT hb1 hb2⟩

set_option maxHeartbeats 4000000 in
theorem least_0 (b off len cap : Nat) (f : Nat → Int × Int) (hl : len ≤ 1000) (him : In64 1 ∧ In64 0) (hf : ∀ i, i < len → In64 (f i).1 ∧ In64 (f i).2) (hrm : rightB 1 0 = true)
    (hle : ∀ j, j < len → rightB (f j).1 (f j).2 = true → cmpS 1 0 (f j).1 (f j).2 ≤ 0) (hone : (1 : Int) = 1 ∧ (0 : Int) = 0 ∨ ∃ j, j < len ∧ f j = (1, 0))
    (km : ∀ w : World, TimesAt w b off len f → Calls Tryd.prog 26 #[.slice (some ⟨b, off, none⟩) len cap] w fun e w' => e = .returned (.agg #[.int .i64 1, .int .i64 0]) ∧ Below w.heap.size w w')
    (w : World) (hT : TimesAt w b off len f) :
    Calls Tryd.prog 11 #[.slice (some ⟨b, off, none⟩) len cap] w fun e w' => e = .returned (.bool true) ∧ Below w.heap.size w w' := by
  have kr : ∀ w : World, Calls Tryd.prog 15 #[.agg #[.int .i64 1, .int .i64 0]] w fun e w' => e = .returned (.bool true) ∧ Below w.heap.size w w' := fun w => by
    have := right_c 1 0 him.1 him.2 w
    rw [hrm] at this
    exact this
  have KR := Lib.hid kr
  have KM := Lib.hid km
  have HT := Lib.hid hT
  have HF := Lib.hid hf
  have HLE := Lib.hid hle
  have HONE := Lib.hid hone
  have HIM := Lib.hid him
  clear kr km hT hf hle hone him hrm
  go_enter Tryd.func11, Tryd.ntmps11
  go_wp2_with fail
  refine (awake_c _).mono ?_
  rintro e w1 ⟨rfl, hb1⟩
  go_wp2_with fail
  refine (KM.out _ (HT.out.keep hb1)).mono ?_
  rintro e w2 ⟨rfl, hb2⟩
  have hw2 := belowT hb1 hb2
  clear hb1 hb2
  go_wp2_with fail
  go_region_held3 (fun w' => w'.cell? ⟨w2.heap.size, 0, none⟩ = some (.int .i64 1) ∧ w'.cell? ⟨w2.heap.size, 1, none⟩ = some (.int .i64 0))
    (first | (go_split_ands; exact ⟨keepc hb (by assumption), keepc hb (by assumption)⟩) | go_keep)
    (first | (go_at_call 17; refine (never_c _).mono ?_; rintro e w3 ⟨rfl, hb⟩))
  go_split_ands
  have hw3 : Below w.heap.size w w3 := by repeat (first | exact Below.refl _ _ | refine belowN ?_ _ | refine Below.drew ?_ | refine belowA ?_ _ | assumption | refine belowT ?_ (by assumption))
  clear hw2
  go_wp2_with fail
  go_loopw [5, 4] (fun vi vt wr => ∃ (k : Nat) (th : Bool), vi = .int .i64 k ∧ vt = .bool th ∧ k ≤ len ∧ (((1 : Int) = 1 ∧ (0 : Int) = 0 ∨ ∃ j, j < k ∧ f j = (1, 0)) → th = true) ∧
      wr.cell? ⟨w2.heap.size, 0, none⟩ = some (.int .i64 1) ∧ wr.cell? ⟨w2.heap.size, 1, none⟩ = some (.int .i64 0) ∧ Below w.heap.size w wr)
    (fun vi _ _ => len - (intOf vi).toNat)
  case atStart =>
    exact ⟨0, true, rfl, rfl, Nat.zero_le _, fun _ => rfl, by assumption, by assumption, hw3⟩
  case round =>
    obtain ⟨k, th, rfl, rfl, hk, hth, m0, m1, hbl⟩ := hrel
    have HTH := Lib.hid hth
    clear hth
    by_cases hlt2 : k < len
    · have hTk := (TimesAt.keep HT.out hbl) k hlt2
      obtain ⟨t0, t1⟩ := hTk
      have hi0 : (0 : Int) ≤ (k : Int) := Int.natCast_nonneg _
      have hi1 : (k : Int) < (len : Int) := by omega
      have fin := HF.out k hlt2
      have kc := cmp_c 1 0 (f k).1 (f k).2 HIM.out fin
      have krk := right_c (f k).1 (f k).2 fin.1 fin.2
      have hle := HLE.out k hlt2
      generalize hfk : f k = tk at *
      obtain ⟨tn, td⟩ := tk
      simp only at t0 t1 kc krk hle
      generalize hcq : cmpS 1 0 tn td = c at *
      have HCQ := Lib.hid hcq
      have HFK := Lib.hid hfk
      have KC := Lib.hid kc
      have KK := Lib.hid krk
      have HLK := Lib.hid hle
      clear kc krk hfk fin hle hcq
      have hnext : ∀ th2 : Bool, (th = true → th2 = true) → ((tn, td) = ((1 : Int), (0 : Int)) → th2 = true) → (((1 : Int) = 1 ∧ (0 : Int) = 0 ∨ ∃ j, j < k + 1 ∧ f j = (1, 0)) → th2 = true) := by
        intro th2 a1 a2 a3
        rcases a3 with a3 | ⟨j, a3, a4⟩
        · exact a1 (HTH.out (.inl a3))
        · by_cases hj : j = k
          · subst hj; exact a2 (HFK.out.symm.trans a4)
          · exact a1 (HTH.out (.inr ⟨j, by omega, a4⟩))
      have HN := Lib.hid hnext
      clear hnext
      have krv : ∀ w : World, Calls Tryd.prog 15 #[.agg #[.int .i64 tn, .int .i64 td]] w fun e w' => e = .returned (.bool (rightB tn td)) ∧ Below w.heap.size w w' := KK.out
      have hrt : rightB tn td = true → c ≤ 0 := HLK.out
      go_upto_region 8 with fail
      go_cut [38] (fun s wx => LeastCut w b (off + k * 2) w2.heap.size tn td 1 0 s wx)
      case first =>
        cases hrv : rightB tn td
        · rw [hrv] at krv
          have KV := Lib.hid krv
          clear krv hrt hrv
          first | go_region_with (first | (go_at_call 15; refine (KV.out _).mono ?_; rintro e w4 ⟨rfl, hb⟩)) | fail
          all_goals (
            go_wp2_with fail
            go_meet
            have hx : Below wr.heap.size wr w4 := by repeat (first | exact Below.refl _ _ | refine belowN ?_ _ | refine Below.drew ?_ | refine belowA ?_ _ | assumption | refine belowT ?_ (by assumption))
            exact ⟨by simp, keepc hx t0, keepc hx t1, keepc hx m0, keepc hx m1, belowT hbl hx⟩)
        · have hc0 := hrt hrv
          rw [hrv] at krv
          have KV := Lib.hid krv
          clear krv hrt hrv
          go_region_held3 (fun w' => w'.cell? ⟨b, off + k * 2, none⟩ = some (.int .i64 tn) ∧ w'.cell? ⟨b, off + k * 2 + 1, none⟩ = some (.int .i64 td) ∧ w'.cell? ⟨w2.heap.size, 0, none⟩ = some (.int .i64 1) ∧ w'.cell? ⟨w2.heap.size, 1, none⟩ = some (.int .i64 0))
            (first | (go_split_ands; exact ⟨keepc hb (by assumption), keepc hb (by assumption), keepc hb (by assumption), keepc hb (by assumption)⟩) | go_keep)
            (first
              | (go_at_call 15; refine (KV.out _).mono ?_; rintro e w4 ⟨rfl, hb⟩)
              | (go_at_call 13; refine (KC.out _).mono ?_; rintro e w4 ⟨rfl, hb⟩))
          all_goals (
            go_wp2_with fail
            go_meet
            have hx : Below wr.heap.size wr w4 := by repeat (first | exact Below.refl _ _ | refine belowN ?_ _ | refine Below.drew ?_ | refine belowA ?_ _ | assumption | refine belowT ?_ (by assumption))
            exact ⟨by simp [hc0], keepc hx t0, keepc hx t1, keepc hx m0, keepc hx m1, belowT hbl hx⟩)
      case rest =>
        clear krv hrt t0 t1 m0 m1 hbl
        obtain ⟨rfl, t0, t1, m0, m1, hbl4⟩ := hcut
        cases th
        · rcases Classical.em (tn = 1) with e1 | e1
          · rcases Classical.em (td = 0) with e2 | e2
            · subst e1 e2
              go_wp2_with fail
              go_quiet (fail)
              go_wp2
              go_roundw
              case rel => exact ⟨k + 1, true, by go_num, by simp, by omega, fun _ => rfl, m0, m1, belowN hbl4 _⟩
              case measure => simp [intOf]; omega
            · have q2 : (td == 0) = false := by simpa using e2
              have hne : (tn, td) = ((1 : Int), (0 : Int)) → false = true := fun h => absurd (congrArg Prod.snd h) e2
              have HNE := Lib.hid hne
              clear hne e2
              subst e1
              go_wp2_with fail
              go_quiet (fail)
              go_wp2
              go_roundw
              case rel => exact ⟨k + 1, false, by go_num, by simp, by omega, HN.out false (fun h => h) HNE.out, m0, m1, belowN hbl4 _⟩
              case measure => simp [intOf]; omega
          · have q2 : (tn == 1) = false := by simpa using e1
            have hne : (tn, td) = ((1 : Int), (0 : Int)) → false = true := fun h => absurd (congrArg Prod.fst h) e1
            have HNE := Lib.hid hne
            clear hne e1
            go_wp2_with fail
            go_quiet (fail)
            go_wp2
            go_roundw
            case rel => exact ⟨k + 1, false, by go_num, by simp, by omega, HN.out false (fun h => h) HNE.out, m0, m1, belowN hbl4 _⟩
            case measure => simp [intOf]; omega
        · go_wp2_with fail
          go_quiet (fail)
          go_wp2
          go_roundw
          case rel => exact ⟨k + 1, true, by go_num, by simp, by omega, fun _ => rfl, m0, m1, belowN hbl4 _⟩
          case measure => simp [intOf]; omega
    · have hkl : k = len := by omega
      subst hkl
      have hth := HTH.out (.inl ⟨rfl, rfl⟩)
      subst hth
      go_wp2_with fail
      refine (KR.out _).mono ?_
      rintro e w4 ⟨rfl, hb4⟩
      go_wp2
      go_ret
      exact ⟨ret_bool rfl, belowT hbl hb4⟩

set_option maxHeartbeats 4000000 in
theorem least_1 (b off len cap : Nat) (f : Nat → Int × Int) (mn md : Int) (hl : len ≤ 1000) (him : In64 mn ∧ In64 md) (hf : ∀ i, i < len → In64 (f i).1 ∧ In64 (f i).2) (hrm : rightB mn md = true)
    (hle : ∀ j, j < len → rightB (f j).1 (f j).2 = true → cmpS mn md (f j).1 (f j).2 ≤ 0) (hone : (mn : Int) = 1 ∧ (md : Int) = 0 ∨ ∃ j, j < len ∧ f j = (mn, md)) (hq : (mn == 1) = false)
    (km : ∀ w : World, TimesAt w b off len f → Calls Tryd.prog 26 #[.slice (some ⟨b, off, none⟩) len cap] w fun e w' => e = .returned (.agg #[.int .i64 mn, .int .i64 md]) ∧ Below w.heap.size w w')
    (w : World) (hT : TimesAt w b off len f) :
    Calls Tryd.prog 11 #[.slice (some ⟨b, off, none⟩) len cap] w fun e w' => e = .returned (.bool true) ∧ Below w.heap.size w w' := by
  have kr : ∀ w : World, Calls Tryd.prog 15 #[.agg #[.int .i64 mn, .int .i64 md]] w fun e w' => e = .returned (.bool true) ∧ Below w.heap.size w w' := fun w => by
    have := right_c mn md him.1 him.2 w
    rw [hrm] at this
    exact this
  have KR := Lib.hid kr
  have KM := Lib.hid km
  have HT := Lib.hid hT
  have HF := Lib.hid hf
  have HLE := Lib.hid hle
  have HONE := Lib.hid hone
  have HIM := Lib.hid him
  clear kr km hT hf hle hone him hrm
  go_enter Tryd.func11, Tryd.ntmps11
  go_wp2_with fail
  refine (awake_c _).mono ?_
  rintro e w1 ⟨rfl, hb1⟩
  go_wp2_with fail
  refine (KM.out _ (HT.out.keep hb1)).mono ?_
  rintro e w2 ⟨rfl, hb2⟩
  have hw2 := belowT hb1 hb2
  clear hb1 hb2
  go_wp2_with fail
  go_region_held3 (fun w' => w'.cell? ⟨w2.heap.size, 0, none⟩ = some (.int .i64 mn) ∧ w'.cell? ⟨w2.heap.size, 1, none⟩ = some (.int .i64 md))
    (first | (go_split_ands; exact ⟨keepc hb (by assumption), keepc hb (by assumption)⟩) | go_keep)
    (first | (go_at_call 17; refine (never_c _).mono ?_; rintro e w3 ⟨rfl, hb⟩))
  go_split_ands
  have hw3 : Below w.heap.size w w3 := by repeat (first | exact Below.refl _ _ | refine belowN ?_ _ | refine Below.drew ?_ | refine belowA ?_ _ | assumption | refine belowT ?_ (by assumption))
  clear hw2
  go_wp2_with fail
  go_loopw [5, 4] (fun vi vt wr => ∃ (k : Nat) (th : Bool), vi = .int .i64 k ∧ vt = .bool th ∧ k ≤ len ∧ (((mn : Int) = 1 ∧ (md : Int) = 0 ∨ ∃ j, j < k ∧ f j = (mn, md)) → th = true) ∧
      wr.cell? ⟨w2.heap.size, 0, none⟩ = some (.int .i64 mn) ∧ wr.cell? ⟨w2.heap.size, 1, none⟩ = some (.int .i64 md) ∧ Below w.heap.size w wr)
    (fun vi _ _ => len - (intOf vi).toNat)
  case atStart =>
    exact ⟨0, false, rfl, rfl, Nat.zero_le _, fun h => h.elim (fun h1 => by simp [h1.1] at hq) (fun ⟨j, h1, _⟩ => absurd h1 (Nat.not_lt_zero j)), by assumption, by assumption, hw3⟩
  case round =>
    obtain ⟨k, th, rfl, rfl, hk, hth, m0, m1, hbl⟩ := hrel
    have HTH := Lib.hid hth
    clear hth
    by_cases hlt2 : k < len
    · have hTk := (TimesAt.keep HT.out hbl) k hlt2
      obtain ⟨t0, t1⟩ := hTk
      have hi0 : (0 : Int) ≤ (k : Int) := Int.natCast_nonneg _
      have hi1 : (k : Int) < (len : Int) := by omega
      have fin := HF.out k hlt2
      have kc := cmp_c mn md (f k).1 (f k).2 HIM.out fin
      have krk := right_c (f k).1 (f k).2 fin.1 fin.2
      have hle := HLE.out k hlt2
      generalize hfk : f k = tk at *
      obtain ⟨tn, td⟩ := tk
      simp only at t0 t1 kc krk hle
      generalize hcq : cmpS mn md tn td = c at *
      have HCQ := Lib.hid hcq
      have HFK := Lib.hid hfk
      have KC := Lib.hid kc
      have KK := Lib.hid krk
      have HLK := Lib.hid hle
      clear kc krk hfk fin hle hcq
      have hnext : ∀ th2 : Bool, (th = true → th2 = true) → ((tn, td) = ((mn : Int), (md : Int)) → th2 = true) → (((mn : Int) = 1 ∧ (md : Int) = 0 ∨ ∃ j, j < k + 1 ∧ f j = (mn, md)) → th2 = true) := by
        intro th2 a1 a2 a3
        rcases a3 with a3 | ⟨j, a3, a4⟩
        · exact a1 (HTH.out (.inl a3))
        · by_cases hj : j = k
          · subst hj; exact a2 (HFK.out.symm.trans a4)
          · exact a1 (HTH.out (.inr ⟨j, by omega, a4⟩))
      have HN := Lib.hid hnext
      clear hnext
      have krv : ∀ w : World, Calls Tryd.prog 15 #[.agg #[.int .i64 tn, .int .i64 td]] w fun e w' => e = .returned (.bool (rightB tn td)) ∧ Below w.heap.size w w' := KK.out
      have hrt : rightB tn td = true → c ≤ 0 := HLK.out
      go_upto_region 8 with fail
      go_cut [38] (fun s wx => LeastCut w b (off + k * 2) w2.heap.size tn td mn md s wx)
      case first =>
        cases hrv : rightB tn td
        · rw [hrv] at krv
          have KV := Lib.hid krv
          clear krv hrt hrv
          first | go_region_with (first | (go_at_call 15; refine (KV.out _).mono ?_; rintro e w4 ⟨rfl, hb⟩)) | fail
          all_goals (
            go_wp2_with fail
            go_meet
            have hx : Below wr.heap.size wr w4 := by repeat (first | exact Below.refl _ _ | refine belowN ?_ _ | refine Below.drew ?_ | refine belowA ?_ _ | assumption | refine belowT ?_ (by assumption))
            exact ⟨by simp, keepc hx t0, keepc hx t1, keepc hx m0, keepc hx m1, belowT hbl hx⟩)
        · have hc0 := hrt hrv
          rw [hrv] at krv
          have KV := Lib.hid krv
          clear krv hrt hrv
          go_region_held3 (fun w' => w'.cell? ⟨b, off + k * 2, none⟩ = some (.int .i64 tn) ∧ w'.cell? ⟨b, off + k * 2 + 1, none⟩ = some (.int .i64 td) ∧ w'.cell? ⟨w2.heap.size, 0, none⟩ = some (.int .i64 mn) ∧ w'.cell? ⟨w2.heap.size, 1, none⟩ = some (.int .i64 md))
            (first | (go_split_ands; exact ⟨keepc hb (by assumption), keepc hb (by assumption), keepc hb (by assumption), keepc hb (by assumption)⟩) | go_keep)
            (first
              | (go_at_call 15; refine (KV.out _).mono ?_; rintro e w4 ⟨rfl, hb⟩)
              | (go_at_call 13; refine (KC.out _).mono ?_; rintro e w4 ⟨rfl, hb⟩))
          all_goals (
            go_wp2_with fail
            go_meet
            have hx : Below wr.heap.size wr w4 := by repeat (first | exact Below.refl _ _ | refine belowN ?_ _ | refine Below.drew ?_ | refine belowA ?_ _ | assumption | refine belowT ?_ (by assumption))
            exact ⟨by simp [hc0], keepc hx t0, keepc hx t1, keepc hx m0, keepc hx m1, belowT hbl hx⟩)
      case rest =>
        clear krv hrt t0 t1 m0 m1 hbl
        obtain ⟨rfl, t0, t1, m0, m1, hbl4⟩ := hcut
        cases th
        · rcases Classical.em (tn = mn) with e1 | e1
          · rcases Classical.em (td = md) with e2 | e2
            · subst e1 e2
              go_wp2_with fail
              go_quiet (fail)
              go_wp2
              go_roundw
              case rel => exact ⟨k + 1, true, by go_num, by simp, by omega, fun _ => rfl, m0, m1, belowN hbl4 _⟩
              case measure => simp [intOf]; omega
            · have q2 : (td == md) = false := by simpa using e2
              have hne : (tn, td) = ((mn : Int), (md : Int)) → false = true := fun h => absurd (congrArg Prod.snd h) e2
              have HNE := Lib.hid hne
              clear hne e2
              subst e1
              go_wp2_with fail
              go_quiet (fail)
              go_wp2
              go_roundw
              case rel => exact ⟨k + 1, false, by go_num, by simp, by omega, HN.out false (fun h => h) HNE.out, m0, m1, belowN hbl4 _⟩
              case measure => simp [intOf]; omega
          · have q2 : (tn == mn) = false := by simpa using e1
            have hne : (tn, td) = ((mn : Int), (md : Int)) → false = true := fun h => absurd (congrArg Prod.fst h) e1
            have HNE := Lib.hid hne
            clear hne e1
            go_wp2_with fail
            go_quiet (fail)
            go_wp2
            go_roundw
            case rel => exact ⟨k + 1, false, by go_num, by simp, by omega, HN.out false (fun h => h) HNE.out, m0, m1, belowN hbl4 _⟩
            case measure => simp [intOf]; omega
        · go_wp2_with fail
          go_quiet (fail)
          go_wp2
          go_roundw
          case rel => exact ⟨k + 1, true, by go_num, by simp, by omega, fun _ => rfl, m0, m1, belowN hbl4 _⟩
          case measure => simp [intOf]; omega
    · have hkl : k = len := by omega
      subst hkl
      have hth := HTH.out HONE.out
      subst hth
      go_wp2_with fail
      refine (KR.out _).mono ?_
      rintro e w4 ⟨rfl, hb4⟩
      go_wp2
      go_ret
      exact ⟨ret_bool rfl, belowT hbl hb4⟩

set_option maxHeartbeats 4000000 in
theorem least_2 (b off len cap : Nat) (f : Nat → Int × Int) (md : Int) (hl : len ≤ 1000) (him : In64 1 ∧ In64 md) (hf : ∀ i, i < len → In64 (f i).1 ∧ In64 (f i).2) (hrm : rightB 1 md = true)
    (hle : ∀ j, j < len → rightB (f j).1 (f j).2 = true → cmpS 1 md (f j).1 (f j).2 ≤ 0) (hone : (1 : Int) = 1 ∧ (md : Int) = 0 ∨ ∃ j, j < len ∧ f j = (1, md)) (hq : (md == 0) = false)
    (km : ∀ w : World, TimesAt w b off len f → Calls Tryd.prog 26 #[.slice (some ⟨b, off, none⟩) len cap] w fun e w' => e = .returned (.agg #[.int .i64 1, .int .i64 md]) ∧ Below w.heap.size w w')
    (w : World) (hT : TimesAt w b off len f) :
    Calls Tryd.prog 11 #[.slice (some ⟨b, off, none⟩) len cap] w fun e w' => e = .returned (.bool true) ∧ Below w.heap.size w w' := by
  have kr : ∀ w : World, Calls Tryd.prog 15 #[.agg #[.int .i64 1, .int .i64 md]] w fun e w' => e = .returned (.bool true) ∧ Below w.heap.size w w' := fun w => by
    have := right_c 1 md him.1 him.2 w
    rw [hrm] at this
    exact this
  have KR := Lib.hid kr
  have KM := Lib.hid km
  have HT := Lib.hid hT
  have HF := Lib.hid hf
  have HLE := Lib.hid hle
  have HONE := Lib.hid hone
  have HIM := Lib.hid him
  clear kr km hT hf hle hone him hrm
  go_enter Tryd.func11, Tryd.ntmps11
  go_wp2_with fail
  refine (awake_c _).mono ?_
  rintro e w1 ⟨rfl, hb1⟩
  go_wp2_with fail
  refine (KM.out _ (HT.out.keep hb1)).mono ?_
  rintro e w2 ⟨rfl, hb2⟩
  have hw2 := belowT hb1 hb2
  clear hb1 hb2
  go_wp2_with fail
  go_region_held3 (fun w' => w'.cell? ⟨w2.heap.size, 0, none⟩ = some (.int .i64 1) ∧ w'.cell? ⟨w2.heap.size, 1, none⟩ = some (.int .i64 md))
    (first | (go_split_ands; exact ⟨keepc hb (by assumption), keepc hb (by assumption)⟩) | go_keep)
    (first | (go_at_call 17; refine (never_c _).mono ?_; rintro e w3 ⟨rfl, hb⟩))
  go_split_ands
  have hw3 : Below w.heap.size w w3 := by repeat (first | exact Below.refl _ _ | refine belowN ?_ _ | refine Below.drew ?_ | refine belowA ?_ _ | assumption | refine belowT ?_ (by assumption))
  clear hw2
  go_wp2_with fail
  go_loopw [5, 4] (fun vi vt wr => ∃ (k : Nat) (th : Bool), vi = .int .i64 k ∧ vt = .bool th ∧ k ≤ len ∧ (((1 : Int) = 1 ∧ (md : Int) = 0 ∨ ∃ j, j < k ∧ f j = (1, md)) → th = true) ∧
      wr.cell? ⟨w2.heap.size, 0, none⟩ = some (.int .i64 1) ∧ wr.cell? ⟨w2.heap.size, 1, none⟩ = some (.int .i64 md) ∧ Below w.heap.size w wr)
    (fun vi _ _ => len - (intOf vi).toNat)
  case atStart =>
    exact ⟨0, false, rfl, rfl, Nat.zero_le _, fun h => h.elim (fun h1 => by simp [h1.2] at hq) (fun ⟨j, h1, _⟩ => absurd h1 (Nat.not_lt_zero j)), by assumption, by assumption, hw3⟩
  case round =>
    obtain ⟨k, th, rfl, rfl, hk, hth, m0, m1, hbl⟩ := hrel
    have HTH := Lib.hid hth
    clear hth
    by_cases hlt2 : k < len
    · have hTk := (TimesAt.keep HT.out hbl) k hlt2
      obtain ⟨t0, t1⟩ := hTk
      have hi0 : (0 : Int) ≤ (k : Int) := Int.natCast_nonneg _
      have hi1 : (k : Int) < (len : Int) := by omega
      have fin := HF.out k hlt2
      have kc := cmp_c 1 md (f k).1 (f k).2 HIM.out fin
      have krk := right_c (f k).1 (f k).2 fin.1 fin.2
      have hle := HLE.out k hlt2
      generalize hfk : f k = tk at *
      obtain ⟨tn, td⟩ := tk
      simp only at t0 t1 kc krk hle
      generalize hcq : cmpS 1 md tn td = c at *
      have HCQ := Lib.hid hcq
      have HFK := Lib.hid hfk
      have KC := Lib.hid kc
      have KK := Lib.hid krk
      have HLK := Lib.hid hle
      clear kc krk hfk fin hle hcq
      have hnext : ∀ th2 : Bool, (th = true → th2 = true) → ((tn, td) = ((1 : Int), (md : Int)) → th2 = true) → (((1 : Int) = 1 ∧ (md : Int) = 0 ∨ ∃ j, j < k + 1 ∧ f j = (1, md)) → th2 = true) := by
        intro th2 a1 a2 a3
        rcases a3 with a3 | ⟨j, a3, a4⟩
        · exact a1 (HTH.out (.inl a3))
        · by_cases hj : j = k
          · subst hj; exact a2 (HFK.out.symm.trans a4)
          · exact a1 (HTH.out (.inr ⟨j, by omega, a4⟩))
      have HN := Lib.hid hnext
      clear hnext
      have krv : ∀ w : World, Calls Tryd.prog 15 #[.agg #[.int .i64 tn, .int .i64 td]] w fun e w' => e = .returned (.bool (rightB tn td)) ∧ Below w.heap.size w w' := KK.out
      have hrt : rightB tn td = true → c ≤ 0 := HLK.out
      go_upto_region 8 with fail
      go_cut [38] (fun s wx => LeastCut w b (off + k * 2) w2.heap.size tn td 1 md s wx)
      case first =>
        cases hrv : rightB tn td
        · rw [hrv] at krv
          have KV := Lib.hid krv
          clear krv hrt hrv
          first | go_region_with (first | (go_at_call 15; refine (KV.out _).mono ?_; rintro e w4 ⟨rfl, hb⟩)) | fail
          all_goals (
            go_wp2_with fail
            go_meet
            have hx : Below wr.heap.size wr w4 := by repeat (first | exact Below.refl _ _ | refine belowN ?_ _ | refine Below.drew ?_ | refine belowA ?_ _ | assumption | refine belowT ?_ (by assumption))
            exact ⟨by simp, keepc hx t0, keepc hx t1, keepc hx m0, keepc hx m1, belowT hbl hx⟩)
        · have hc0 := hrt hrv
          rw [hrv] at krv
          have KV := Lib.hid krv
          clear krv hrt hrv
          go_region_held3 (fun w' => w'.cell? ⟨b, off + k * 2, none⟩ = some (.int .i64 tn) ∧ w'.cell? ⟨b, off + k * 2 + 1, none⟩ = some (.int .i64 td) ∧ w'.cell? ⟨w2.heap.size, 0, none⟩ = some (.int .i64 1) ∧ w'.cell? ⟨w2.heap.size, 1, none⟩ = some (.int .i64 md))
            (first | (go_split_ands; exact ⟨keepc hb (by assumption), keepc hb (by assumption), keepc hb (by assumption), keepc hb (by assumption)⟩) | go_keep)
            (first
              | (go_at_call 15; refine (KV.out _).mono ?_; rintro e w4 ⟨rfl, hb⟩)
              | (go_at_call 13; refine (KC.out _).mono ?_; rintro e w4 ⟨rfl, hb⟩))
          all_goals (
            go_wp2_with fail
            go_meet
            have hx : Below wr.heap.size wr w4 := by repeat (first | exact Below.refl _ _ | refine belowN ?_ _ | refine Below.drew ?_ | refine belowA ?_ _ | assumption | refine belowT ?_ (by assumption))
            exact ⟨by simp [hc0], keepc hx t0, keepc hx t1, keepc hx m0, keepc hx m1, belowT hbl hx⟩)
      case rest =>
        clear krv hrt t0 t1 m0 m1 hbl
        obtain ⟨rfl, t0, t1, m0, m1, hbl4⟩ := hcut
        cases th
        · rcases Classical.em (tn = 1) with e1 | e1
          · rcases Classical.em (td = md) with e2 | e2
            · subst e1 e2
              go_wp2_with fail
              go_quiet (fail)
              go_wp2
              go_roundw
              case rel => exact ⟨k + 1, true, by go_num, by simp, by omega, fun _ => rfl, m0, m1, belowN hbl4 _⟩
              case measure => simp [intOf]; omega
            · have q2 : (td == md) = false := by simpa using e2
              have hne : (tn, td) = ((1 : Int), (md : Int)) → false = true := fun h => absurd (congrArg Prod.snd h) e2
              have HNE := Lib.hid hne
              clear hne e2
              subst e1
              go_wp2_with fail
              go_quiet (fail)
              go_wp2
              go_roundw
              case rel => exact ⟨k + 1, false, by go_num, by simp, by omega, HN.out false (fun h => h) HNE.out, m0, m1, belowN hbl4 _⟩
              case measure => simp [intOf]; omega
          · have q2 : (tn == 1) = false := by simpa using e1
            have hne : (tn, td) = ((1 : Int), (md : Int)) → false = true := fun h => absurd (congrArg Prod.fst h) e1
            have HNE := Lib.hid hne
            clear hne e1
            go_wp2_with fail
            go_quiet (fail)
            go_wp2
            go_roundw
            case rel => exact ⟨k + 1, false, by go_num, by simp, by omega, HN.out false (fun h => h) HNE.out, m0, m1, belowN hbl4 _⟩
            case measure => simp [intOf]; omega
        · go_wp2_with fail
          go_quiet (fail)
          go_wp2
          go_roundw
          case rel => exact ⟨k + 1, true, by go_num, by simp, by omega, fun _ => rfl, m0, m1, belowN hbl4 _⟩
          case measure => simp [intOf]; omega
    · have hkl : k = len := by omega
      subst hkl
      have hth := HTH.out (HONE.out.elim (fun h => .inl ⟨rfl, h.2⟩) .inr)
      subst hth
      go_wp2_with fail
      refine (KR.out _).mono ?_
      rintro e w4 ⟨rfl, hb4⟩
      go_wp2
      go_ret
      exact ⟨ret_bool rfl, belowT hbl hb4⟩
end Go.Proofs.YthdadpafankbfaaDoor
