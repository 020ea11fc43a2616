/-
  The law StampTexts over this seat's translation, from what the program's functions answer. Conditions: those that each theorem states.
-/
import Derived.Test.YtmkclkppolfpnaaDoorStAsksW
namespace Go.Proofs.YtmkclkppolfpnaaDoor
open Go.RowKit

/-- Two stamps in their boxes. -/
structure C6 (w : World) (an ad ac bn bd bc : Int) (W : World) : Prop where
  below : Below w.heap.size w W
  a0 : W.cell? ⟨w.heap.size, 0, none⟩ = some (.int .i64 an)
  a1 : W.cell? ⟨w.heap.size, 1, none⟩ = some (.int .i64 ad)
  a2 : W.cell? ⟨w.heap.size, 2, none⟩ = some (.int .i64 ac)
  b0 : W.cell? ⟨w.heap.size + 1, 0, none⟩ = some (.int .i64 bn)
  b1 : W.cell? ⟨w.heap.size + 1, 1, none⟩ = some (.int .i64 bd)
  b2 : W.cell? ⟨w.heap.size + 1, 2, none⟩ = some (.int .i64 bc)
theorem C6.on {w W W' : World} {an ad ac bn bd bc : Int} (h : C6 w an ad ac bn bd bc W) (hb : Below W.heap.size W W') : C6 w an ad ac bn bd bc W' :=
  ⟨belowT h.below hb, keepc hb h.a0, keepc hb h.a1, keepc hb h.a2, keepc hb h.b0, keepc hb h.b1, keepc hb h.b2⟩
set_option maxHeartbeats 16000000 in
set_option maxRecDepth 100000 in
theorem texts_w (an ad ac bn bd bc : Int) (ha : In3 an ad ac) (hb : In3 bn bd bc) (w : World)
    (k0 : Ans w 10 #[] (.bool true))
    (k1 : Ans w 12 #[stV an ad ac] (.bool (sRight an ad ac)))
    (k2 : Ans w 12 #[stV bn bd bc] (.bool (sRight bn bd bc)))
    (k3 : Ans w 16 #[stV an ad ac] (.string (sText an ad ac)))
    (k4 : Ans w 16 #[stV bn bd bc] (.string (sText bn bd bc))) :
    Calls Tryd.prog 7 #[stV an ad ac, stV bn bd bc] w fun e w' => e = .returned (.bool true) ∧ Below w.heap.size w w' := by
  have mixed : Tryd.prog.follows .mixedOrders = true := by kernel_rfl
  have K0 := Lib.hid k0
  have K1 := Lib.hid k1
  have K2 := Lib.hid k2
  have K3 := Lib.hid k3
  have K4 := Lib.hid k4
  clear k0 k1 k2 k3 k4
  by_cases r1 : sRight an ad ac = true
  · have q1 : sText an ad ac = bs (stL an ad ac) := by unfold sText; rw [if_pos r1]
    rw [r1] at K1
    rw [q1] at K3
    have n1 := stL_ne ha r1
    by_cases r2 : sRight bn bd bc = true
    · have q2 : sText bn bd bc = bs (stL bn bd bc) := by unfold sText; rw [if_pos r2]
      rw [r2] at K2
      rw [q2] at K4
      by_cases he : an = bn ∧ ad = bd ∧ ac = bc
      · obtain ⟨rfl, rfl, rfl⟩ := he
        generalize stL an ad ac = L at *
        clear q1 q2 r1 r2 ha hb
        go_enter Tryd.func7, Tryd.ntmps7
        go_wp2_with fail
        go_region_held3 (fun w' => w'.cell? ⟨w.heap.size, 0, none⟩ = some (.int .i64 an) ∧ w'.cell? ⟨w.heap.size, 1, none⟩ = some (.int .i64 ad) ∧ w'.cell? ⟨w.heap.size, 2, none⟩ = some (.int .i64 ac) ∧ w'.cell? ⟨w.heap.size + 1, 0, none⟩ = some (.int .i64 an) ∧ w'.cell? ⟨w.heap.size + 1, 1, none⟩ = some (.int .i64 ad) ∧ w'.cell? ⟨w.heap.size + 1, 2, none⟩ = some (.int .i64 ac) ∧ Below w.heap.size w w')
          (first | (go_split_ands; with_reducible exact ⟨keepc hb (by assumption), keepc hb (by assumption), keepc hb (by assumption), keepc hb (by assumption), keepc hb (by assumption), keepc hb (by assumption), belowT (by assumption) hb⟩) | exact ⟨by go_simp, by go_simp, by go_simp, by go_simp, by go_simp, by go_simp, Below.drew (belowA (belowA (Below.refl _ w) _) _)⟩ | go_keep)
          (first
            | (go_at_call 9; refine (of_c _ _ _ _).mono ?_; rintro e w6 ⟨rfl, hb⟩)
            | (go_at_call_of 16 (stV an ad ac); refine (K3.out _ (by (first | with_reducible assumption | (go_split_ands; with_reducible assumption)))).mono ?_; rintro e w6 ⟨rfl, hb⟩)
            | (go_at_call_of 16 (Value.agg #[.int .i64 an, .int .i64 ad, .int .i64 ac]); refine (K3.out _ (by (first | with_reducible assumption | (go_split_ands; with_reducible assumption)))).mono ?_; rintro e w6 ⟨rfl, hb⟩)
            | (go_at_call_of 16 (stV an ad ac); refine (K4.out _ (by (first | with_reducible assumption | (go_split_ands; with_reducible assumption)))).mono ?_; rintro e w6 ⟨rfl, hb⟩)
            | (go_at_call_of 16 (Value.agg #[.int .i64 an, .int .i64 ad, .int .i64 ac]); refine (K4.out _ (by (first | with_reducible assumption | (go_split_ands; with_reducible assumption)))).mono ?_; rintro e w6 ⟨rfl, hb⟩))
        all_goals
          go_split_ands
          have HC := Lib.hid (show C6 w an ad ac an ad ac w6 from ⟨by assumption, by assumption, by assumption, by assumption, by assumption, by assumption, by assumption⟩)
          obtain ⟨_, a0, a1, a2, b0, b1, b2⟩ := HC.out
          go_wp2_with fail
          refine (of_c _ _ _ _).mono ?_
          rintro e w7 ⟨rfl, hb⟩
          replace HC := Lib.hid (HC.out.on hb)
          clear hb
          clear a0 a1 a2 b0 b1 b2
          obtain ⟨_, a0, a1, a2, b0, b1, b2⟩ := HC.out
          go_wp2_with fail
          refine (K1.out _ HC.out.below).mono ?_
          rintro e w8 ⟨rfl, hb⟩
          replace HC := Lib.hid (HC.out.on hb)
          clear hb
          clear a0 a1 a2 b0 b1 b2
          obtain ⟨_, a0, a1, a2, b0, b1, b2⟩ := HC.out
          go_wp2_with fail
          refine (of_c _ _ _ _).mono ?_
          rintro e w9 ⟨rfl, hb⟩
          replace HC := Lib.hid (HC.out.on hb)
          clear hb
          clear a0 a1 a2 b0 b1 b2
          obtain ⟨_, a0, a1, a2, b0, b1, b2⟩ := HC.out
          go_wp2_with fail
          refine (K2.out _ HC.out.below).mono ?_
          rintro e w10 ⟨rfl, hb⟩
          replace HC := Lib.hid (HC.out.on hb)
          clear hb
          clear a0 a1 a2 b0 b1 b2
          obtain ⟨_, a0, a1, a2, b0, b1, b2⟩ := HC.out
          go_wp2_with fail
          refine (K0.out _ HC.out.below).mono ?_
          rintro e w11 ⟨rfl, hb⟩
          replace HC := Lib.hid (HC.out.on hb)
          clear hb
          clear a0 a1 a2 b0 b1 b2
          obtain ⟨_, a0, a1, a2, b0, b1, b2⟩ := HC.out
          go_wp2
          all_goals go_ret
          all_goals exact ⟨ret_bool (by first | (simp; done) | (simp [n1]; done) | simp [n1, hL]), HC.out.below⟩
      · have hL : stL an ad ac ≠ stL bn bd bc := fun h => he (stL_inj ha hb r1 r2 h)
        generalize stL an ad ac = L at *
        generalize stL bn bd bc = M at *
        have he2 : ((an == bn && ad == bd) && ac == bc) = false := by
          rw [Bool.eq_false_iff]
          intro h
          simp at h
          exact he ⟨h.1.1, h.1.2, h.2⟩
        clear q1 q2 r1 r2 ha hb
        go_enter Tryd.func7, Tryd.ntmps7
        go_wp2_with fail
        go_region_held3 (fun w' => w'.cell? ⟨w.heap.size, 0, none⟩ = some (.int .i64 an) ∧ w'.cell? ⟨w.heap.size, 1, none⟩ = some (.int .i64 ad) ∧ w'.cell? ⟨w.heap.size, 2, none⟩ = some (.int .i64 ac) ∧ w'.cell? ⟨w.heap.size + 1, 0, none⟩ = some (.int .i64 bn) ∧ w'.cell? ⟨w.heap.size + 1, 1, none⟩ = some (.int .i64 bd) ∧ w'.cell? ⟨w.heap.size + 1, 2, none⟩ = some (.int .i64 bc) ∧ Below w.heap.size w w')
          (first | (go_split_ands; with_reducible exact ⟨keepc hb (by assumption), keepc hb (by assumption), keepc hb (by assumption), keepc hb (by assumption), keepc hb (by assumption), keepc hb (by assumption), belowT (by assumption) hb⟩) | exact ⟨by go_simp, by go_simp, by go_simp, by go_simp, by go_simp, by go_simp, Below.drew (belowA (belowA (Below.refl _ w) _) _)⟩ | go_keep)
          (first
            | (go_at_call 9; refine (of_c _ _ _ _).mono ?_; rintro e w6 ⟨rfl, hb⟩)
            | (go_at_call_of 16 (stV an ad ac); refine (K3.out _ (by (first | with_reducible assumption | (go_split_ands; with_reducible assumption)))).mono ?_; rintro e w6 ⟨rfl, hb⟩)
            | (go_at_call_of 16 (Value.agg #[.int .i64 an, .int .i64 ad, .int .i64 ac]); refine (K3.out _ (by (first | with_reducible assumption | (go_split_ands; with_reducible assumption)))).mono ?_; rintro e w6 ⟨rfl, hb⟩)
            | (go_at_call_of 16 (stV bn bd bc); refine (K4.out _ (by (first | with_reducible assumption | (go_split_ands; with_reducible assumption)))).mono ?_; rintro e w6 ⟨rfl, hb⟩)
            | (go_at_call_of 16 (Value.agg #[.int .i64 bn, .int .i64 bd, .int .i64 bc]); refine (K4.out _ (by (first | with_reducible assumption | (go_split_ands; with_reducible assumption)))).mono ?_; rintro e w6 ⟨rfl, hb⟩))
        all_goals
          go_split_ands
          have HC := Lib.hid (show C6 w an ad ac bn bd bc w6 from ⟨by assumption, by assumption, by assumption, by assumption, by assumption, by assumption, by assumption⟩)
          obtain ⟨_, a0, a1, a2, b0, b1, b2⟩ := HC.out
          go_wp2_with fail
          refine (of_c _ _ _ _).mono ?_
          rintro e w7 ⟨rfl, hb⟩
          replace HC := Lib.hid (HC.out.on hb)
          clear hb
          clear a0 a1 a2 b0 b1 b2
          obtain ⟨_, a0, a1, a2, b0, b1, b2⟩ := HC.out
          go_wp2_with fail
          refine (K1.out _ HC.out.below).mono ?_
          rintro e w8 ⟨rfl, hb⟩
          replace HC := Lib.hid (HC.out.on hb)
          clear hb
          clear a0 a1 a2 b0 b1 b2
          obtain ⟨_, a0, a1, a2, b0, b1, b2⟩ := HC.out
          go_wp2_with fail
          refine (of_c _ _ _ _).mono ?_
          rintro e w9 ⟨rfl, hb⟩
          replace HC := Lib.hid (HC.out.on hb)
          clear hb
          clear a0 a1 a2 b0 b1 b2
          obtain ⟨_, a0, a1, a2, b0, b1, b2⟩ := HC.out
          go_wp2_with fail
          refine (K2.out _ HC.out.below).mono ?_
          rintro e w10 ⟨rfl, hb⟩
          replace HC := Lib.hid (HC.out.on hb)
          clear hb
          clear a0 a1 a2 b0 b1 b2
          obtain ⟨_, a0, a1, a2, b0, b1, b2⟩ := HC.out
          go_wp2_with fail
          refine (K0.out _ HC.out.below).mono ?_
          rintro e w11 ⟨rfl, hb⟩
          replace HC := Lib.hid (HC.out.on hb)
          clear hb
          clear a0 a1 a2 b0 b1 b2
          obtain ⟨_, a0, a1, a2, b0, b1, b2⟩ := HC.out
          go_wp2
          all_goals go_ret
          all_goals exact ⟨ret_bool (by first | (simp; done) | (simp [n1]; done) | simp [n1, hL]), HC.out.below⟩
    · have q2 : sText bn bd bc = ⟨#[]⟩ := by unfold sText; rw [if_neg r2]
      rw [Bool.eq_false_iff.2 r2] at K2
      rw [q2] at K4
      generalize stL an ad ac = L at *
      clear q1 q2 r1 r2 ha hb
      go_enter Tryd.func7, Tryd.ntmps7
      go_wp2_with fail
      go_region_held3 (fun w' => w'.cell? ⟨w.heap.size, 0, none⟩ = some (.int .i64 an) ∧ w'.cell? ⟨w.heap.size, 1, none⟩ = some (.int .i64 ad) ∧ w'.cell? ⟨w.heap.size, 2, none⟩ = some (.int .i64 ac) ∧ w'.cell? ⟨w.heap.size + 1, 0, none⟩ = some (.int .i64 bn) ∧ w'.cell? ⟨w.heap.size + 1, 1, none⟩ = some (.int .i64 bd) ∧ w'.cell? ⟨w.heap.size + 1, 2, none⟩ = some (.int .i64 bc) ∧ Below w.heap.size w w')
        (first | (go_split_ands; with_reducible exact ⟨keepc hb (by assumption), keepc hb (by assumption), keepc hb (by assumption), keepc hb (by assumption), keepc hb (by assumption), keepc hb (by assumption), belowT (by assumption) hb⟩) | exact ⟨by go_simp, by go_simp, by go_simp, by go_simp, by go_simp, by go_simp, Below.drew (belowA (belowA (Below.refl _ w) _) _)⟩ | go_keep)
        (first
          | (go_at_call 9; refine (of_c _ _ _ _).mono ?_; rintro e w6 ⟨rfl, hb⟩)
          | (go_at_call_of 16 (stV an ad ac); refine (K3.out _ (by (first | with_reducible assumption | (go_split_ands; with_reducible assumption)))).mono ?_; rintro e w6 ⟨rfl, hb⟩)
          | (go_at_call_of 16 (Value.agg #[.int .i64 an, .int .i64 ad, .int .i64 ac]); refine (K3.out _ (by (first | with_reducible assumption | (go_split_ands; with_reducible assumption)))).mono ?_; rintro e w6 ⟨rfl, hb⟩)
          | (go_at_call_of 16 (stV bn bd bc); refine (K4.out _ (by (first | with_reducible assumption | (go_split_ands; with_reducible assumption)))).mono ?_; rintro e w6 ⟨rfl, hb⟩)
          | (go_at_call_of 16 (Value.agg #[.int .i64 bn, .int .i64 bd, .int .i64 bc]); refine (K4.out _ (by (first | with_reducible assumption | (go_split_ands; with_reducible assumption)))).mono ?_; rintro e w6 ⟨rfl, hb⟩))
      all_goals
        go_split_ands
        have HC := Lib.hid (show C6 w an ad ac bn bd bc w6 from ⟨by assumption, by assumption, by assumption, by assumption, by assumption, by assumption, by assumption⟩)
        obtain ⟨_, a0, a1, a2, b0, b1, b2⟩ := HC.out
        go_wp2_with fail
        refine (of_c _ _ _ _).mono ?_
        rintro e w7 ⟨rfl, hb⟩
        replace HC := Lib.hid (HC.out.on hb)
        clear hb
        clear a0 a1 a2 b0 b1 b2
        obtain ⟨_, a0, a1, a2, b0, b1, b2⟩ := HC.out
        go_wp2_with fail
        refine (K1.out _ HC.out.below).mono ?_
        rintro e w8 ⟨rfl, hb⟩
        replace HC := Lib.hid (HC.out.on hb)
        clear hb
        clear a0 a1 a2 b0 b1 b2
        obtain ⟨_, a0, a1, a2, b0, b1, b2⟩ := HC.out
        go_wp2_with fail
        refine (of_c _ _ _ _).mono ?_
        rintro e w9 ⟨rfl, hb⟩
        replace HC := Lib.hid (HC.out.on hb)
        clear hb
        clear a0 a1 a2 b0 b1 b2
        obtain ⟨_, a0, a1, a2, b0, b1, b2⟩ := HC.out
        go_wp2_with fail
        refine (K2.out _ HC.out.below).mono ?_
        rintro e w10 ⟨rfl, hb⟩
        replace HC := Lib.hid (HC.out.on hb)
        clear hb
        clear a0 a1 a2 b0 b1 b2
        obtain ⟨_, a0, a1, a2, b0, b1, b2⟩ := HC.out
        go_wp2_with fail
        refine (K0.out _ HC.out.below).mono ?_
        rintro e w11 ⟨rfl, hb⟩
        replace HC := Lib.hid (HC.out.on hb)
        clear hb
        clear a0 a1 a2 b0 b1 b2
        obtain ⟨_, a0, a1, a2, b0, b1, b2⟩ := HC.out
        go_wp2
        all_goals go_ret
        all_goals exact ⟨ret_bool (by first | (simp; done) | (simp [n1]; done) | simp [n1, hL]), HC.out.below⟩
  · have q1 : sText an ad ac = ⟨#[]⟩ := by unfold sText; rw [if_neg r1]
    rw [Bool.eq_false_iff.2 r1] at K1
    rw [q1] at K3
    clear q1 r1 ha hb
    go_enter Tryd.func7, Tryd.ntmps7
    go_wp2_with fail
    go_region_held3 (fun w' => w'.cell? ⟨w.heap.size, 0, none⟩ = some (.int .i64 an) ∧ w'.cell? ⟨w.heap.size, 1, none⟩ = some (.int .i64 ad) ∧ w'.cell? ⟨w.heap.size, 2, none⟩ = some (.int .i64 ac) ∧ w'.cell? ⟨w.heap.size + 1, 0, none⟩ = some (.int .i64 bn) ∧ w'.cell? ⟨w.heap.size + 1, 1, none⟩ = some (.int .i64 bd) ∧ w'.cell? ⟨w.heap.size + 1, 2, none⟩ = some (.int .i64 bc) ∧ Below w.heap.size w w')
      (first | (go_split_ands; with_reducible exact ⟨keepc hb (by assumption), keepc hb (by assumption), keepc hb (by assumption), keepc hb (by assumption), keepc hb (by assumption), keepc hb (by assumption), belowT (by assumption) hb⟩) | exact ⟨by go_simp, by go_simp, by go_simp, by go_simp, by go_simp, by go_simp, Below.drew (belowA (belowA (Below.refl _ w) _) _)⟩ | go_keep)
      (first
        | (go_at_call 9; refine (of_c _ _ _ _).mono ?_; rintro e w6 ⟨rfl, hb⟩)
        | (go_at_call_of 16 (stV an ad ac); refine (K3.out _ (by (first | with_reducible assumption | (go_split_ands; with_reducible assumption)))).mono ?_; rintro e w6 ⟨rfl, hb⟩)
        | (go_at_call_of 16 (Value.agg #[.int .i64 an, .int .i64 ad, .int .i64 ac]); refine (K3.out _ (by (first | with_reducible assumption | (go_split_ands; with_reducible assumption)))).mono ?_; rintro e w6 ⟨rfl, hb⟩)
        | (go_at_call_of 16 (stV bn bd bc); refine (K4.out _ (by (first | with_reducible assumption | (go_split_ands; with_reducible assumption)))).mono ?_; rintro e w6 ⟨rfl, hb⟩)
        | (go_at_call_of 16 (Value.agg #[.int .i64 bn, .int .i64 bd, .int .i64 bc]); refine (K4.out _ (by (first | with_reducible assumption | (go_split_ands; with_reducible assumption)))).mono ?_; rintro e w6 ⟨rfl, hb⟩))
    all_goals
      go_split_ands
      have HC := Lib.hid (show C6 w an ad ac bn bd bc w6 from ⟨by assumption, by assumption, by assumption, by assumption, by assumption, by assumption, by assumption⟩)
      obtain ⟨_, a0, a1, a2, b0, b1, b2⟩ := HC.out
      go_wp2_with fail
      refine (of_c _ _ _ _).mono ?_
      rintro e w7 ⟨rfl, hb⟩
      replace HC := Lib.hid (HC.out.on hb)
      clear hb
      clear a0 a1 a2 b0 b1 b2
      obtain ⟨_, a0, a1, a2, b0, b1, b2⟩ := HC.out
      go_wp2_with fail
      refine (K1.out _ HC.out.below).mono ?_
      rintro e w8 ⟨rfl, hb⟩
      replace HC := Lib.hid (HC.out.on hb)
      clear hb
      clear a0 a1 a2 b0 b1 b2
      obtain ⟨_, a0, a1, a2, b0, b1, b2⟩ := HC.out
      go_wp2_with fail
      refine (K0.out _ HC.out.below).mono ?_
      rintro e w11 ⟨rfl, hb⟩
      replace HC := Lib.hid (HC.out.on hb)
      clear hb
      clear a0 a1 a2 b0 b1 b2
      obtain ⟨_, a0, a1, a2, b0, b1, b2⟩ := HC.out
      go_wp2
      all_goals go_ret
      all_goals exact ⟨ret_bool (by first | (simp; done) | (simp [n1]; done) | simp [n1, hL]), HC.out.below⟩
end Go.Proofs.YtmkclkppolfpnaaDoor
