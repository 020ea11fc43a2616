/-
  heap's fill, slices.Delete at entries, over this seat's translation. Conditions: those that each theorem states.
-/
import Derived.Test.YtngeinmpnjfhfaaHpM2
import Derived.Test.YtngeinmpnjfhfaaHpFind
namespace Go.Proofs.Ytngeinmpnjfhfaa
open Go.RowKit Go.Shelf Go.Lib Go.Sort Hp

theorem infoIt : (Try.prog.info? 33).map (fun i => (i.zero, i.size, i.bytes)) = some (some (.agg #[.int .i64 0, .int .i64 0]), 2, 16) := by kernel_rfl
set_option maxHeartbeats 8000000 in
set_option maxRecDepth 100000 in
theorem delete_T (g cap i : Nat) (R : List It) (w : World) (h : RowIs It.cells 2 33 g R.length cap w R) (hi : i < R.length) (hn : R.length ≤ 1000000) :
    Calls Try.prog 41 #[.slice (some ⟨g, 0, none⟩) R.length cap, .int .i64 i, .int .i64 ((i : Int) + 1)] w fun e w' => e = .returned (.slice (some ⟨g, 0, none⟩) (R.length - 1 : Nat) cap) ∧ RowIs It.cells 2 33 g (R.length - 1) cap w' (R.eraseIdx i) ∧ Touch g none w w' := by
  obtain ⟨i0, hi0, hz0, hz1, hz2⟩ := info_parts infoIt
  obtain ⟨cur, w1, w2, w3, w4, w5⟩ := h.whole
  have hd : RowIs It.cells 2 33 g R.length cap w.drew R := h.same cT_len rfl
  obtain ⟨W1, r1, r2, r3⟩ := erase_seg (P := Try.prog) (T := 50) (ty := 50) cT_len cT_one Try.underlying50 hi0 hz1 hd hi
  obtain ⟨W2, q1, q2, q3⟩ := zero_seg (P := Try.prog) (T := 50) (ty := 0) (z := (.agg #[.int .i64 0, .int .i64 0])) cT_len Try.underlying50 (fun w => by first | exact Try.zeroValue33 w | exact Try.zeroValue33 _ w) rfl (by decide) r2 (by omega)
  have hmaxl : cap ≤ 9223372036854775807 := by unfold maxLen at w3; omega
  have HE := Lib.hid (And.intro q2 (show Touch g none w W2 from ⟨q3.os.trans r3.os, q3.tape.trans r3.tape, q3.output.trans r3.output, Nat.le_trans r3.size q3.size, fun k hk a b => (q3.block k (Nat.lt_of_lt_of_le hk r3.size) a b).trans (r3.block k hk a b)⟩))
  have hn1 : R.length - 1 + 1 = R.length := by omega
  obtain ⟨n, hn2⟩ : ∃ n, R.length = n := ⟨_, rfl⟩
  obtain ⟨m, hm2⟩ : ∃ m, R.length - 1 = m := ⟨_, rfl⟩
  rw [hm2] at hn1 q1 r1 HE
  rw [hn2] at hn1 r1 w2
  rw [hn1] at q1
  rw [hm2, hn2]
  clear h hd w1 w3 w4 w5 r2 r3 q2 q3
  obtain ⟨j, hj⟩ : ∃ j, i + 1 = j := ⟨_, rfl⟩
  rw [show ((i : Int) + 1) = (j : Int) from by omega]
  rw [hj] at r1
  have hin : j ≤ n := by omega
  have hij : i ≤ j := by omega
  have hic : i ≤ cap := by omega
  have hjc : j ≤ cap := by omega
  have hne : decide ((i : Int) = (j : Int)) = false := decide_eq_false (by omega)
  have R1 := Lib.hid r1
  clear r1
  have hsl : sliced (some ⟨g, 0, none⟩) m n cap 2 = .slice (some ⟨g, m * 2, none⟩) (n - m) (cap - m) := by
    unfold sliced
    rw [if_neg (by omega)]
    congr 2
    unfold Addr.add
    split <;> simp_all
  rw [hsl] at q1
  clear hsl
  go_enter Try.func41, Try.ntmps41
  go_wp2_with fail
  go_region_law (first | (refine step_append_run rfl (.tmp 22) (.tmp 25) 50 rfl (v1 := .slice (some ⟨g, 0, none⟩) i cap) (v2 := sliced (some ⟨g, 0, none⟩) j n cap 2) (by simp [Act.eval, Act.put]) (by simp [Act.eval, Act.put, sliced, Addr.add_lit]) R1.out ?_))
  go_wp2
  all_goals go_ret
  all_goals (first | exact ⟨rfl, HE.out⟩ | (have hcj : cap = j := by assumption
                                            subst hcj
                                            exact ⟨rfl, HE.out⟩))


set_option maxHeartbeats 8000000 in
set_option maxRecDepth 100000 in
theorem fill_c (hb gb cap a : Nat) (X : List It) (w : World) (h0 : w.cell? ⟨hb, 0, none⟩ = some (.func (.func 10) #[] #[])) (hrow : RowIs It.cells 2 33 gb X.length cap w X) (ha : a < X.length) (hlen : X.length ≤ 1000000) (hto : fillTo X a < X.length) :
    Calls Try.prog 38 #[.pointer (some ⟨hb, 0, none⟩), .slice (some ⟨gb, 0, none⟩) X.length cap, .int .i64 a] w fun r w' => r = .returned (.int .i64 (fillTo X a : Nat)) ∧ RowIs It.cells 2 33 gb X.length cap w' (fillL X a) ∧ Touch gb none w w' := by
  have mixed : Try.prog.follows .mixedOrders = true := by kernel_rfl
  obtain ⟨n, hn⟩ : ∃ n, X.length = n + 1 := ⟨X.length - 1, by omega⟩
  have HR := Lib.hid hrow
  obtain ⟨N, hN⟩ : ∃ N, n + 1 = N := ⟨_, rfl⟩
  have r1 : IntKind.i64.wrap ((N : Int) - 1) = (n : Int) := by rw [IntKind.wrap_i64]; omega
  by_cases hl : a = n
  · have hd1 : decide ((a : Int) = (n : Int)) = true := decide_eq_true (by omega)
    have hd2 : ((a : Int) == (n : Int)) = true := by rw [beq_iff_eq]; omega
    have hd3 : decide (a = n) = true := decide_eq_true hl
    have HE := Lib.hid (show fillTo X a = a ∧ fillL X a = X from ⟨if_pos (by omega), if_pos (by omega)⟩)
    rw [HE.out.1, HE.out.2]
    rw [hn, hN]
    have HN := Lib.hid (And.intro hn hN)
    clear hrow h0 ha hlen hto hn hN
    go_enter Try.func38, Try.ntmps38
    go_wp2
    go_ret
    exact ⟨rfl, by rw [← HN.out.2, ← HN.out.1]; exact HR.out, Touch.below (Below.refl _ _)⟩
  · have hd1 : decide ((a : Int) = (n : Int)) = false := decide_eq_false (by omega)
    have hd2 : ((a : Int) == (n : Int)) = false := by rw [beq_eq_false_iff_ne]; omega
    have hd3 : decide (a = n) = false := decide_eq_false hl
    have hTl : (X.take n).length = n := by rw [List.length_take]; omega
    obtain ⟨t, ht⟩ : ∃ t, fillTo X a = t := ⟨_, rfl⟩
    obtain ⟨x, hx⟩ : ∃ x, Hp.g X n = x := ⟨_, rfl⟩
    have HT := Lib.hid (show goal (X.take n) x a = t ∧ fillL X a = shift X a t x from by
      unfold fillTo at ht
      rw [if_neg (by omega), hn, Nat.add_sub_cancel, hx] at ht
      refine ⟨ht, ?_⟩
      unfold fillL fillTo
      rw [if_neg (by omega), if_neg (by omega), hn, Nat.add_sub_cancel, hx, ht])
    rw [ht] at hto ⊢
    rw [HT.out.2]
    have hLT : Lies w (some ⟨gb, 0, none⟩) (X.take n) := fun i hi => by
      rw [hTl] at hi
      rw [g_take hi]
      exact hrow.lies i (by omega)
    have KG := goal_g hb cap (some ⟨gb, 0, none⟩) (X.take n) a x w h0 hLT (by omega) (by omega)
    rw [hTl, HT.out.1] at KG
    have KG1 := Lib.hid fun (nq : Nat) (osq : Array Obj) => by
      have := goal_g hb cap (some ⟨gb, 0, none⟩) (X.take n) a x (grow (w.drewN nq) osq) (cg h0 nq osq) (hLT.grown nq osq) (by omega) (by omega)
      rw [hTl, HT.out.1] at this
      exact this
    have KS := Lib.hid fun (W : World) (hb : Below w.heap.size w W) => shift_c gb cap a t X x W (hrow.same cT_len (hb.block gb (by obtain ⟨cur, h1, _⟩ := hrow.whole; exact (Array.getElem?_eq_some_iff.1 h1).1))) ha hto hlen
    rw [hn, hN] at KS
    obtain ⟨c1, c2, _, _⟩ := hrow.cells (i := n) (by omega)
    rw [hx] at c1 c2
    have g1 := cg c1
    have g2 := cg c2
    have hnc : n ≤ cap := by obtain ⟨cur, _, h2, _⟩ := hrow.whole; omega
    have hn1 : n ≤ N := by omega
    have hnz : (n : Int) < (N : Int) := by omega
    have eg : ∀ args w, (callFunc 32 args).run Try.prog w = .ok (.enter 32 args) w := enters_of Try.func32 (by kernel_rfl) rfl
    have HN := Lib.hid (And.intro hn hN)
    rw [hn, hN]
    clear hrow h0 ha hlen hto hTl hLT hx ht hn hN KG
    go_enter Try.func38, Try.ntmps38
    go_wp2_with fail
    go_quiet_grown (first | (go_at_fn 32; exact Calls.grown_of (KG1.out _ _)))
    have hb2 : Below w.heap.size w (grow (w.drewN nq) osq) := below_grown_sl _ _ _ _ (Nat.le_refl _)
    have d1 := kc' hb2 c1
    have d2 := kc' hb2 c2
    have KS2 := KS.out _ hb2
    have HB2 := Lib.hid hb2
    clear hb2 c1 c2 g1 g2 KS
    generalize grow (w.drewN nq) osq = w2 at *
    go_wp2_with fail
    refine KS2.mono ?_
    rintro e w3 ⟨rfl, q1, q2⟩
    have HQ := Lib.hid (And.intro q1 q2)
    clear q1 q2 d1 d2 KS2
    go_wp2
    go_ret
    exact ⟨rfl, HQ.out.1, (Touch.below HB2.out).trans HQ.out.2 (.inl rfl)⟩
end Go.Proofs.Ytngeinmpnjfhfaa
