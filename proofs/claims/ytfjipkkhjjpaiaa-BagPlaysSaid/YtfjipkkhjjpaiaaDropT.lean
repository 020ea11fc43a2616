/-
  slices.Delete and bag's Drop at items over this seat's translation. Conditions: those that each theorem states.
-/
import Derived.Test.YtfjipkkhjjpaiaaDelM
import Derived.Test.YtfjipkkhjjpaiaaSameT
namespace Go.Proofs.Ytfjipkkhjjpaiaa
open Go.RowKit Go.Shelf Go.Lib Go.Sort St

set_option maxHeartbeats 8000000 in
set_option maxRecDepth 100000 in
theorem delete_T (g cap i : Nat) (R : List It) (w : World) (h : RowIs It.cells 2 41 g R.length cap w R) (hi : i < R.length) (hn : R.length ≤ 1000000) :
    Calls Try.prog 47 #[.slice (some ⟨g, 0, none⟩) R.length cap, .int .i64 i, .int .i64 ((i : Int) + 1)] w fun e w' => e = .returned (.slice (some ⟨g, 0, none⟩) (R.length - 1 : Nat) cap) ∧ RowIs It.cells 2 41 g (R.length - 1) cap w' (R.eraseIdx i) ∧ Touch g none w w' := by
  obtain ⟨i0, hi0, hz0, hz1, hz2⟩ := info_parts infoIt
  obtain ⟨cur, w1, w2, w3, w4, w5⟩ := h.whole
  have hd : RowIs It.cells 2 41 g R.length cap w.drew R := h.same cT_len rfl
  obtain ⟨W1, r1, r2, r3⟩ := erase_seg (P := Try.prog) (T := 43) (ty := 43) cT_len cT_one Try.underlying43 hi0 hz1 hd hi
  obtain ⟨W2, q1, q2, q3⟩ := zero_seg (P := Try.prog) (T := 43) (ty := 0) (z := (.agg #[.int .i64 0, .int .i64 0])) cT_len Try.underlying43 (fun w => by first | exact Try.zeroValue41 w | exact Try.zeroValue41 _ w) rfl (by decide) r2 (by omega)
  have hmaxl : cap ≤ 9223372036854775807 := by unfold maxLen at w3; omega
  have HE := Lib.hid (And.intro q2 (show Touch g none w W2 from ⟨q3.os.trans r3.os, q3.tape.trans r3.tape, q3.output.trans r3.output, Nat.le_trans r3.size q3.size, fun k hk a b => (q3.block k (Nat.lt_of_lt_of_le hk r3.size) a b).trans (r3.block k hk a b)⟩))
  have hn1 : R.length - 1 + 1 = R.length := by omega
  obtain ⟨n, hn2⟩ : ∃ n, R.length = n := ⟨_, rfl⟩
  obtain ⟨m, hm2⟩ : ∃ m, R.length - 1 = m := ⟨_, rfl⟩
  rw [hm2] at hn1 q1 r1 HE
  rw [hn2] at hn1 r1 w2
  rw [hn1] at q1
  rw [hm2, hn2]
  clear h hd w1 w3 w4 w5 r2 r3 q2 q3
  obtain ⟨j, hj⟩ : ∃ j, i + 1 = j := ⟨_, rfl⟩
  rw [show ((i : Int) + 1) = (j : Int) from by omega]
  rw [hj] at r1
  have hin : j ≤ n := by omega
  have hij : i ≤ j := by omega
  have hic : i ≤ cap := by omega
  have hjc : j ≤ cap := by omega
  have hne : decide ((i : Int) = (j : Int)) = false := decide_eq_false (by omega)
  have R1 := Lib.hid r1
  clear r1
  have hsl : sliced (some ⟨g, 0, none⟩) m n cap 2 = .slice (some ⟨g, m * 2, none⟩) (n - m) (cap - m) := by
    unfold sliced
    rw [if_neg (by omega)]
    congr 2
    unfold Addr.add
    split <;> simp_all
  rw [hsl] at q1
  clear hsl
  go_enter Try.func47, Try.ntmps47
  go_wp2_with fail
  go_region_law (first | (refine step_append_run rfl (.tmp 22) (.tmp 25) 43 rfl (v1 := .slice (some ⟨g, 0, none⟩) i cap) (v2 := sliced (some ⟨g, 0, none⟩) j n cap 2) (by simp [Act.eval, Act.put]) (by simp [Act.eval, Act.put, sliced, Addr.add_lit]) R1.out ?_))
  go_wp2
  all_goals go_ret
  all_goals (first | exact ⟨rfl, HE.out⟩ | (have hcj : cap = j := by assumption
                                            subst hcj
                                            exact ⟨rfl, HE.out⟩))

theorem dropOut_T {xs : List It} {x : It} {q : Nat} (hq1 : ∀ i, i < q → ¬ x.1 ≤ (xs.getD i default).1) (hq2 : ∀ i, q ≤ i → i < xs.length → x.1 ≤ (xs.getD i default).1) (hmn : ∀ i j, i ≤ j → j < xs.length → (xs.getD i default).1 ≤ (xs.getD j default).1) (hd : ∀ i (hi : i < xs.length), xs.getD i default = xs[i])
    (hne : q < xs.length → ¬ (xs.getD q default).1 = x.1) : xs.any (fun y => y.1 == x.1) = false ∧ xs.eraseP (fun y => y.1 == x.1) = xs := by
  have hno : ∀ y ∈ xs, ¬ (y.1 == x.1) = true := by
    intro y hy
    obtain ⟨i, hi, rfl⟩ := List.getElem_of_mem hy
    rw [← hd i hi]
    intro e
    have e := eq_of_beq e
    rcases Nat.lt_or_ge i q with h | h
    · exact hq1 i h (by omega)
    · have h1 := hne (by omega)
      have h2 := hq2 q (Nat.le_refl _) (by omega)
      have h3 := hmn q i h hi
      omega
  exact ⟨by rw [List.any_eq_false]; exact hno, List.eraseP_of_forall_not hno⟩
theorem dropIn_T {xs : List It} {x : It} {q : Nat} (hq1 : ∀ i, i < q → ¬ x.1 ≤ (xs.getD i default).1) (hd : ∀ i (hi : i < xs.length), xs.getD i default = xs[i])
    (hq : q < xs.length) (he : (xs.getD q default).1 = x.1) : xs.any (fun y => y.1 == x.1) = true ∧ xs.eraseP (fun y => y.1 == x.1) = xs.eraseIdx q := by
  have hs : xs = xs.take q ++ xs[q] :: xs.drop (q + 1) := by rw [← List.drop_eq_getElem_cons hq, List.take_append_drop]
  have hk : (fun y : It => y.1 == x.1) xs[q] = true := by
    rw [hd q hq] at he
    exact beq_iff_eq.2 he
  have hno : ∀ y ∈ xs.take q, ¬ (y.1 == x.1) = true := by
    intro y hy
    obtain ⟨i, hi, rfl⟩ := List.mem_take_iff_getElem.1 hy
    rw [← hd i (by omega)]
    intro e
    have e := eq_of_beq e
    exact hq1 i (by omega) (by omega)
  refine ⟨List.any_eq_true.2 ⟨xs[q], List.getElem_mem hq, hk⟩, ?_⟩
  rw [List.eraseIdx_eq_take_drop_succ]
  conv => lhs; rw [hs]
  rw [List.eraseP_append_right _ hno]
  exact congrArg (xs.take q ++ ·) (List.eraseP_cons_of_pos (p := fun y : It => y.1 == x.1) hk)
theorem seekd_T (xs : List It) : ∀ i (hi : i < xs.length), xs.getD i default = xs[i] := fun i hi => by rw [List.getD_eq_getElem?_getD, List.getElem?_eq_getElem hi]; rfl

set_option maxHeartbeats 8000000 in
set_option maxRecDepth 100000 in
theorem drop_T (b : Nat) (sv : Value) (xs : List It) (x : It) (w : World) (h : BagST w b sv xs) (hn : xs.length ≤ 1000000) :
    Calls Try.prog 22 #[.pointer (some ⟨b, 0, none⟩), (.agg #[.int .i64 x.1, .int .i64 x.2])] w fun e w' => e = .returned (.bool (xs.any (fun y => y.1 == x.1))) ∧ ∃ sv', BagST w' b sv' (xs.eraseP (fun y => y.1 == x.1)) ∧ sv'.ownBlock = sv.ownBlock ∧ Touch b sv.ownBlock w w' := by
  have mixed : Try.prog.follows .mixedOrders = true := by kernel_rfl
  have eg : ∀ args w, (callFunc 18 args).run Try.prog w = .ok (.enter 18 args) w := enters_of Try.func18 (by kernel_rfl) rfl
  have KO := Lib.hid fun (y : It) (w : World) => level_g y x w
  obtain ⟨p0, cap0, rfl, _⟩ := h.slice
  have HH := Lib.hid h
  have KA := Lib.hid fun (W' : World) (hb : Below w.heap.size w W') => by
    obtain ⟨p, cap, c0, c1, hc, hm⟩ := seek_facts_T (h.below hb).bag
    exact ahead_T b xs.length cap p (fun i => xs.getD i default) x W' c0 c1 hn hc hm
  clear h
  have q0 : (w.alloc (.cells #[.int .i64 x.1, .int .i64 x.2] 41)).cell? ⟨w.heap.size, 0, none⟩ = some (.int .i64 x.1) := by go_simp
  have q1 : (w.alloc (.cells #[.int .i64 x.1, .int .i64 x.2] 41)).cell? ⟨w.heap.size, 1, none⟩ = some (.int .i64 x.2) := by go_simp
  go_enter Try.func22, Try.ntmps22
  go_wp2_with fail
  refine (KA.out _ (show Below w.heap.size w (w.alloc (.cells #[.int .i64 x.1, .int .i64 x.2] 41)) from bA' (Below.refl _ _) (Nat.le_refl _) _)).mono ?_
  rintro e w2 ⟨⟨q, rfl, hq0, hq1, hq2⟩, hb2⟩
  have hq1 : ∀ i, i < q → ¬ x.1 ≤ (xs.getD i default).1 := fun i hi => by have := hq1 i hi; omega
  have hq2 : ∀ i, q ≤ i → i < xs.length → x.1 ≤ (xs.getD i default).1 := fun i h1 h2 => by have := hq2 i h1 h2; omega
  have HB2 := Lib.hid (show Below w.heap.size w w2 from bT' (show Below w.heap.size w (w.alloc (.cells #[.int .i64 x.1, .int .i64 x.2] 41)) from bA' (Below.refl _ _) (Nat.le_refl _) _) hb2 (show Below w.heap.size w (w.alloc (.cells #[.int .i64 x.1, .int .i64 x.2] 41)) from bA' (Below.refl _ _) (Nat.le_refl _) _).size)
  have q0 := kc' hb2 q0
  have q1 := kc' hb2 q1
  obtain ⟨p, cap, c0, c1, hc, hmn⟩ := seek_facts_T (HH.out.below HB2.out).bag
  clear hb2
  by_cases hlt : q < xs.length
  · have hlz : ((q : Int) == (xs.length : Int)) = false := by rw [beq_eq_false_iff_ne]; omega
    have hlz2 : (q == xs.length) = false := by rw [beq_eq_false_iff_ne]; omega
    obtain ⟨g, rfl, hc5, hc6⟩ := hc q hlt
    have hlt' : (q : Int) < (xs.length : Int) := by omega
    have HF := Lib.hid (And.intro hq1 (And.intro hq2 (And.intro hmn (And.intro c0 c1))))
    obtain ⟨y, hy⟩ : ∃ y, xs.getD q default = y := ⟨_, rfl⟩
    have HY := Lib.hid hy
    rw [hy] at hc5 hc6
    have g0 := cg c0
    have g1 := cg c1
    have g5 := cg hc5
    have g6 := cg hc6
    have g7 := cg q0
    have g8 := cg q1
    by_cases he : y.1 = x.1
    · have hz : (cmpI y.1 x.1 != 0) = false := by rw [show cmpI y.1 x.1 = 0 from by rw [he]; unfold cmpI; rw [if_neg (by omega), if_neg (by omega)]]; rfl
      have HE := Lib.hid (And.intro he hlt)
      clear hq0 hq1 hq2 hc hmn c0 c1 he hy hlt hc5 hc6 q0 q1
      go_wp2_with fail
      go_quiet_grown (first | (go_at_fn 18; refine Calls.grown_of (KO.out y _)))
      have HB3 := Lib.hid (show Below w.heap.size w (grow (w2.drewN nq) osq) from bT' HB2.out (below_grown_sl _ _ _ _ (Nat.le_refl _)) HB2.out.size)
      generalize grow (w2.drewN nq) osq = W3 at *
      have hb3 := HH.out.below HB3.out
      obtain ⟨k0, k1, k2⟩ := cell_two hb3.box
      obtain ⟨e1, e2⟩ := HE.out
      have hp : p0 = some ⟨g, 0, none⟩ ∧ cap0 = cap := by
        have h1 := (cell_two (HH.out.below HB2.out).box).2.1
        have h2 := HF.out.2.2.2.2
        rw [h1] at h2
        simpa using h2
      obtain ⟨rfl, rfl⟩ := hp
      have hrow : RowIs It.cells 2 41 g xs.length cap0 W3 xs := ⟨rfl, hb3.row⟩
      obtain ⟨cur, r1, _⟩ := hrow.whole
      have hbg : b ≠ g := by
        rintro rfl
        have := r1.symm.trans hb3.box
        simp at this
      have KD := delete_T g cap0 q xs W3 hrow e2 hn
      have HK := Lib.hid (And.intro hb3 (And.intro hbg (Array.getElem?_eq_some_iff.1 r1).1))
      clear hrow r1 hb3 k0 k2 hbg e1 e2
      go_wp2_with fail
      refine KD.mono ?_
      rintro e w4 ⟨rfl, hrow4, ht4⟩
      obtain ⟨hb3, hbg, hgl⟩ := HK.out
      have hbox4 := (ht4.block b hb3.lt.1 hbg (by simp)).trans hb3.box
      obtain ⟨k0, k1', k2⟩ := cell_two hbox4
      have HX := Lib.hid (And.intro hrow4 (And.intro ht4 hbox4))
      clear hrow4 ht4 hbox4 hb3 hbg hgl k0 KD k1
      go_wp2
      go_ret
      obtain ⟨hrow4, ht4, hbox4⟩ := HX.out
      obtain ⟨hb3, hbg, hgl⟩ := HK.out
      obtain ⟨o1, o2⟩ := dropIn_T (x := x) (fun i hi => by have := HF.out.1 i hi; omega) (seekd_T xs) HE.out.2 (by rw [HY.out]; exact HE.out.1)
      have hlE : (xs.eraseIdx q).length = xs.length - 1 := by rw [List.length_eraseIdx, if_pos HE.out.2]
      refine ⟨by rw [o1]; rfl, .slice (some ⟨g, 0, none⟩) (xs.length - 1) cap0, ?_, rfl, ?_⟩
      · rw [o2]
        refine ⟨heap_setCell_same _ b 1 _ _ _ hbox4, ?_, hb3.srt.sublist (List.eraseIdx_sublist _ _)⟩
        have := (hrow4.same cT_len (heap_setCell_other w4 ⟨b, 1, none⟩ g (.slice (some ⟨g, 0, none⟩) (xs.length - 1) cap0) (Ne.symm hbg))).row
        rw [hlE]
        exact this
      · have hw := HB3.out
        exact ⟨ht4.os.trans hw.os, ht4.tape.trans hw.tape, ht4.output.trans hw.output, by have := ht4.size; have := hw.size; simp; omega, fun k hk h1 h2 => (heap_setCell_other _ ⟨b, 1, none⟩ k _ h1).trans ((ht4.block k (by have := hw.size; omega) (fun e => h2 (by rw [e]; rfl)) (by simp)).trans (hw.block k hk))⟩
    · have hz : (cmpI y.1 x.1 != 0) = true := by
        rw [bne_iff_ne]
        intro e
        exact he (of_decide_eq_true ((cmpI_zero _ _).symm.trans (beq_iff_eq.2 e)))
      obtain ⟨o1, o2⟩ := dropOut_T HF.out.1 HF.out.2.1 HF.out.2.2.1 (seekd_T xs) (fun _ => by rw [HY.out]; exact he)
      have HO := Lib.hid (And.intro o1 o2)
      clear hq0 hq1 hq2 hc hmn c0 c1 he hy hlt hc5 hc6 q0 q1 o1 o2
      go_wp2_with fail
      go_quiet_grown (first | (go_at_fn 18; refine Calls.grown_of (KO.out y _)))
      go_wp2
      go_ret
      have HB3 := bT' HB2.out (below_grown_sl _ w2 nq osq (Nat.le_refl _)) HB2.out.size
      exact ⟨by rw [HO.out.1]; rfl, _, by rw [HO.out.2]; exact HH.out.below HB3, rfl, Touch.below HB3⟩
  · obtain rfl : q = xs.length := by omega
    obtain ⟨o1, o2⟩ := dropOut_T hq1 hq2 hmn (seekd_T xs) (fun h => absurd h (Nat.lt_irrefl _))
    have HO := Lib.hid (And.intro o1 o2)
    have hlz : decide ((xs.length : Int) = (xs.length : Int)) = true := decide_eq_true rfl
    clear hq0 hq1 hq2 hc hmn o1 o2
    go_wp2_with fail
    go_quiet (fail)
    go_wp2
    go_ret
    have HB3 : Below w.heap.size w (w2.drewN nq) := ⟨HB2.out.os, HB2.out.tape, HB2.out.output, HB2.out.size, HB2.out.block⟩
    exact ⟨by rw [HO.out.1]; rfl, _, by rw [HO.out.2]; exact HH.out.below HB3, rfl, Touch.below HB3⟩
end Go.Proofs.Ytfjipkkhjjpaiaa
