/-
  The law StampAfter over this seat's translation, from what the program's functions answer. Conditions: those that each theorem states.
-/
import Derived.Test.YtmkclkppolfpnaaDoorStAsksW
import Derived.Test.YtmkclkppolfpnaaDoorStAfter
namespace Go.Proofs.YtmkclkppolfpnaaDoor
open Go.RowKit

/-- A box of the law's own, filled: the last of a region's ways. -/
theorem packS {w W : World} {Z : Nat} {s1 s2 s3 t1 t2 a b c : Value} {T1 T2 T : TypeId} (hz : W.heap[Z]? = some (.cells #[a, b, c] T (0, 0))) (hb : Below w.heap.size w W) (hs : W.heap[w.heap.size]? = some (.cells #[s1, s2, s3] T1 (0, 0))) (ht : W.heap[w.heap.size + 1]? = some (.cells #[t1, t2] T2 (0, 0))) (hZ : w.heap.size + 2 ≤ Z) (u1 u2 u3 : Value) :
    Below w.heap.size w (((W.setCell ⟨Z, 0, none⟩ u1).setCell ⟨Z, 1, none⟩ u2).setCell ⟨Z, 2, none⟩ u3) ∧ (((W.setCell ⟨Z, 0, none⟩ u1).setCell ⟨Z, 1, none⟩ u2).setCell ⟨Z, 2, none⟩ u3).heap[w.heap.size]? = some (.cells #[s1, s2, s3] T1 (0, 0)) ∧ (((W.setCell ⟨Z, 0, none⟩ u1).setCell ⟨Z, 1, none⟩ u2).setCell ⟨Z, 2, none⟩ u3).heap[w.heap.size + 1]? = some (.cells #[t1, t2] T2 (0, 0)) ∧
      (((W.setCell ⟨Z, 0, none⟩ u1).setCell ⟨Z, 1, none⟩ u2).setCell ⟨Z, 2, none⟩ u3).heap[Z]? = some (.cells #[u1, u2, u3] T (0, 0)) := by
  have hh : ∀ j, j ≠ Z → (((W.setCell ⟨Z, 0, none⟩ u1).setCell ⟨Z, 1, none⟩ u2).setCell ⟨Z, 2, none⟩ u3).heap[j]? = W.heap[j]? := fun j hj => ((heap_setCell_other _ ⟨Z, 2, none⟩ j u3 hj).trans (heap_setCell_other _ ⟨Z, 1, none⟩ j u2 hj)).trans (heap_setCell_other _ ⟨Z, 0, none⟩ j u1 hj)
  refine ⟨⟨hb.os, hb.tape, hb.output, by simpa using hb.size, fun j hj => (hh j (by omega)).trans (hb.block j hj)⟩, (hh _ (by omega)).trans hs, (hh _ (by omega)).trans ht, ?_⟩
  exact heap_setCell_same _ Z 2 _ _ u3 (heap_setCell_same _ Z 1 _ _ u2 (heap_setCell_same _ Z 0 _ _ u1 hz))
/-- The temporaries behind the first call. -/
def afF (w : World) (n d c tn td x1 x2 x3 xe : Int) (A1 : Nat) : Act :=
  { tmps := #[stV n d c, .agg #[.int .i64 tn, .int .i64 td], .pointer (some ⟨w.heap.size, 0, none⟩), .pointer (some ⟨w.heap.size + 1, 0, none⟩), .bool false, .pointer (some ⟨A1, 0, none⟩), .int .i64 xe, undef, undef, undef, undef, undef, undef,
      .tuple #[stV x1 x2 x3, .int .i64 xe], .agg #[.int .i64 n, .int .i64 d, .int .i64 c], stV n d c, .agg #[.int .i64 tn, .int .i64 td], .tuple #[stV x1 x2 x3, .int .i64 xe], stV x1 x2 x3, .int .i64 xe, undef, undef, undef, undef, undef, undef, undef, undef, undef, undef, undef, undef, undef, undef, undef, undef, undef, undef, undef, undef, undef, undef, undef, undef, undef, undef, undef, undef, undef, undef, undef, undef, undef, undef, undef, undef, undef, undef, undef, undef, undef], defers := [] }
/-- What is so behind it. -/
def afR (w : World) (n d c tn td x1 x2 x3 xe : Int) : Exit → Act → World → Prop
  | .normal, a', V => ∃ A1, a' = afF w n d c tn td x1 x2 x3 xe A1 ∧ Below w.heap.size w V ∧ V.heap[w.heap.size]? = some (.cells #[.int .i64 n, .int .i64 d, .int .i64 c] 25 (0, 0)) ∧ V.heap[w.heap.size + 1]? = some (.cells #[.int .i64 tn, .int .i64 td] 23 (0, 0)) ∧ V.heap[A1]? = some (.cells #[.int .i64 x1, .int .i64 x2, .int .i64 x3] 27 (0, 0))
  | _, _, _ => False
theorem afR_out {w : World} {n d c tn td x1 x2 x3 xe : Int} {e : Exit} {a' : Act} {V : World} (h : afR w n d c tn td x1 x2 x3 xe e a' V) : e = .normal ∧ ∃ A1, a' = afF w n d c tn td x1 x2 x3 xe A1 ∧ Below w.heap.size w V ∧ V.heap[w.heap.size]? = some (.cells #[.int .i64 n, .int .i64 d, .int .i64 c] 25 (0, 0)) ∧ V.heap[w.heap.size + 1]? = some (.cells #[.int .i64 tn, .int .i64 td] 23 (0, 0)) ∧ V.heap[A1]? = some (.cells #[.int .i64 x1, .int .i64 x2, .int .i64 x3] 27 (0, 0)) := by
  cases e <;> first | exact ⟨rfl, h⟩ | exact h.elim
theorem kbS {W W' : World} {b : Nat} {o : Obj} (h : W.heap[b]? = some o) (hb : Below W.heap.size W W') : W'.heap[b]? = some o := (hb.block b (Array.getElem?_eq_some_iff.1 h).1).trans h
theorem cells2S {W : World} {b : Nat} {u v : Value} {t : TypeId} (h : W.heap[b]? = some (.cells #[u, v] t (0, 0))) : W.cell? ⟨b, 0, none⟩ = some u ∧ W.cell? ⟨b, 1, none⟩ = some v := cells2 h
theorem cells3S {W : World} {b : Nat} {u v x : Value} {t : TypeId} (h : W.heap[b]? = some (.cells #[u, v, x] t (0, 0))) : W.cell? ⟨b, 0, none⟩ = some u ∧ W.cell? ⟨b, 1, none⟩ = some v ∧ W.cell? ⟨b, 2, none⟩ = some x := cells3 h (Below.refl _ _)

set_option maxHeartbeats 16000000 in
set_option maxRecDepth 100000 in
theorem after_w (n d c tn td : Int) (hs : In3 n d c) (ht : In64 tn ∧ In64 td) (w : World)
    (k0 : Ans w 10 #[] (.bool true))
    (k1 : Ans w 13 #[stV n d c, .agg #[.int .i64 tn, .int .i64 td]] (afV (sAfter n d c tn td)))
    (k2 : Ans w 19 #[stV n d c] (afV (sAfter n d c 0 1))) :
    Calls Tryd.prog 5 #[stV n d c, .agg #[.int .i64 tn, .int .i64 td]] w fun e w' => e = .returned (.bool true) ∧ Below w.heap.size w w' := by
  have mixed : Tryd.prog.follows .mixedOrders = true := by kernel_rfl
  have R1 := r6after_c n d c tn td hs ht
  have R2 := r6after_c n d c 0 1 hs ⟨by decide, by decide⟩
  obtain ⟨⟨⟨x1, x2, x3⟩, xe⟩, hx⟩ : ∃ s, sAfter n d c tn td = s := ⟨_, rfl⟩
  obtain ⟨⟨⟨y1, y2, y3⟩, ye⟩, hy⟩ : ∃ s, sAfter n d c 0 1 = s := ⟨_, rfl⟩
  rw [hx] at R1 k1
  rw [hy] at R2 k2
  dsimp only [afV, stV] at R1 R2 k1 k2
  have K0 := Lib.hid k0
  have K1 := Lib.hid k1
  have K2 := Lib.hid k2
  have R1 := Lib.hid R1
  have R2 := Lib.hid R2
  clear k0 k1 k2 hs ht hx hy
  obtain ⟨W0, hW0⟩ : ∃ W0, (w.alloc (.cells #[.int .i64 n, .int .i64 d, .int .i64 c] 25)).alloc (.cells #[.int .i64 tn, .int .i64 td] 23) = W0 := ⟨_, rfl⟩
  have WB := Lib.hid (show Below w.heap.size w W0 from hW0 ▸ belowA (belowA (Below.refl _ w) _) _)
  have ST := Lib.hid (show W0.heap[w.heap.size]? = some (.cells #[.int .i64 n, .int .i64 d, .int .i64 c] 25 (0, 0)) from by
    rw [← hW0, Below.heap_alloc _ _ _ (by simp)]
    exact World.alloc_heap_new w _)
  have TM := Lib.hid (show W0.heap[w.heap.size + 1]? = some (.cells #[.int .i64 tn, .int .i64 td] 23 (0, 0)) from by
    have := World.alloc_heap_new (w.alloc (.cells #[.int .i64 n, .int .i64 d, .int .i64 c] 25)) (.cells #[.int .i64 tn, .int .i64 td] 23)
    rw [World.size_alloc] at this
    rw [← hW0]
    exact this)
  have GE := Lib.hid (show W0.heap.size = w.heap.size + 2 from by rw [← hW0]; simp)
  have HW := Lib.hid hW0
  clear hW0
  obtain ⟨st0, st1, st2⟩ := cells3S ST.out
  obtain ⟨tm0, tm1⟩ := cells2S TM.out
  go_enter Tryd.func5, Tryd.ntmps5
  go_wp2_with fail
  rw [HW.out]
  clear HW
  refine Code.wp_mono (Q := afR w n d c tn td x1 x2 x3 xe) ?imp ?reg
  case reg =>
    obtain ⟨sz0, sz1, sz2⟩ := cells3S (kbS ST.out (belowA (Below.refl _ _) (.cells #[.int .i64 0, .int .i64 0, .int .i64 0] 27)))
    obtain ⟨tz0, tz1⟩ := cells2S (kbS TM.out (belowA (Below.refl _ _) (.cells #[.int .i64 0, .int .i64 0, .int .i64 0] 27)))
    go_region_law (first
        | (go_simp; go_at_call 9; refine (of_c _ _ _ _).mono ?_; rintro e w6 ⟨rfl, hb⟩; (first | (replace BZ := Lib.hid (kbS BZ.out hb)) | (have BZ0 := kbS (World.alloc_heap_new _ _) hb; have BZ := Lib.hid (show w6.heap[W0.heap.size]? = some _ from BZ0); clear BZ0) | (have BZ0 := kbS (W := World.drew (World.alloc _ _)) (World.alloc_heap_new _ _) hb; have BZ := Lib.hid (show w6.heap[W0.heap.size]? = some _ from BZ0); clear BZ0) | skip); replace hb : Below W0.heap.size W0 w6 := belowT (by repeat (first | with_reducible exact Below.refl _ _ | with_reducible refine Below.drew ?_ | with_reducible refine belowA ?_ _)) hb; have hsz := hb.size; replace ST := Lib.hid (kbS ST.out hb); replace TM := Lib.hid (kbS TM.out hb); replace WB := Lib.hid (belowT WB.out hb); clear hb; clear st0 st1 st2 tm0 tm1; obtain ⟨st0, st1, st2⟩ := cells3S ST.out; obtain ⟨tm0, tm1⟩ := cells2S TM.out; have SZ := Lib.hid (show W0.heap.size ≤ w6.heap.size from hsz); clear sz0 sz1 sz2 tz0 tz1; obtain ⟨sz0, sz1, sz2⟩ := cells3S (kbS ST.out (belowA (Below.refl _ _) (.cells #[.int .i64 0, .int .i64 0, .int .i64 0] 27))); obtain ⟨tz0, tz1⟩ := cells2S (kbS TM.out (belowA (Below.refl _ _) (.cells #[.int .i64 0, .int .i64 0, .int .i64 0] 27))); (first | (clear z0 z1 z2 f0 f1 f2) | skip); (first | (obtain ⟨z0, z1, z2⟩ := cells3S BZ.out; have f0 := frozen_of_row _ _ 0 _ _ BZ.out; have f1 := frozen_of_row _ _ 1 _ _ BZ.out; have f2 := frozen_of_row _ _ 2 _ _ BZ.out) | skip))
        | (go_simp; go_at_call 13; refine (K1.out _ (belowT WB.out (by repeat (first | with_reducible exact Below.refl _ _ | with_reducible refine Below.drew ?_ | with_reducible refine belowA ?_ _)))).mono ?_; rintro e w7 ⟨rfl, hb⟩; (first | (replace BZ := Lib.hid (kbS BZ.out hb)) | (have BZ0 := kbS (World.alloc_heap_new _ _) hb; have BZ := Lib.hid (show w7.heap[w6.heap.size]? = some _ from BZ0); clear BZ0) | (have BZ0 := kbS (W := World.drew (World.alloc _ _)) (World.alloc_heap_new _ _) hb; have BZ := Lib.hid (show w7.heap[w6.heap.size]? = some _ from BZ0); clear BZ0) | skip); replace hb : Below w6.heap.size w6 w7 := belowT (by repeat (first | with_reducible exact Below.refl _ _ | with_reducible refine Below.drew ?_ | with_reducible refine belowA ?_ _)) hb; replace ST := Lib.hid (kbS ST.out hb); replace TM := Lib.hid (kbS TM.out hb); replace WB := Lib.hid (belowT WB.out hb); clear hb; clear st0 st1 st2 tm0 tm1; obtain ⟨st0, st1, st2⟩ := cells3S ST.out; obtain ⟨tm0, tm1⟩ := cells2S TM.out; clear sz0 sz1 sz2 tz0 tz1; obtain ⟨sz0, sz1, sz2⟩ := cells3S (kbS ST.out (belowA (Below.refl _ _) (.cells #[.int .i64 0, .int .i64 0, .int .i64 0] 27))); obtain ⟨tz0, tz1⟩ := cells2S (kbS TM.out (belowA (Below.refl _ _) (.cells #[.int .i64 0, .int .i64 0, .int .i64 0] 27))); (first | (clear z0 z1 z2 f0 f1 f2) | skip); (first | (obtain ⟨z0, z1, z2⟩ := cells3S BZ.out; have f0 := frozen_of_row _ _ 0 _ _ BZ.out; have f1 := frozen_of_row _ _ 1 _ _ BZ.out; have f2 := frozen_of_row _ _ 2 _ _ BZ.out) | skip)))
    all_goals first
      | exact ⟨w7.heap.size, rfl, belowT WB.out (belowA (Below.refl _ w7) _), kbS ST.out (belowA (Below.refl _ w7) _), kbS TM.out (belowA (Below.refl _ w7) _), World.alloc_heap_new w7 _⟩
      | (obtain ⟨e1, e2, e3, e4⟩ := packS BZ.out WB.out ST.out TM.out (by have h1 := GE.out; first | omega | (have h3 := SZ.out; omega)) (.int .i64 x1) (.int .i64 x2) (.int .i64 x3)
         exact ⟨_, rfl, e1, e2, e3, e4⟩)
  case imp =>
    intro e a' V1 hR
    obtain ⟨rfl, A1, rfl, hB, hst, htm, hb1⟩ := afR_out hR
    replace WB := Lib.hid hB
    replace ST := Lib.hid hst
    replace TM := Lib.hid htm
    have B1 := Lib.hid hb1
    clear hB hst htm hb1 st0 st1 st2 tm0 tm1
    unfold afF
    obtain ⟨st0, st1, st2⟩ := cells3S ST.out
    obtain ⟨tm0, tm1⟩ := cells2S TM.out
    obtain ⟨b10, b11, b12⟩ := cells3S B1.out
    go_wp2_with fail
    refine (R1.out _).mono ?_
    rintro e w9 ⟨rfl, hb⟩
    replace ST := Lib.hid (kbS ST.out hb)
    replace TM := Lib.hid (kbS TM.out hb)
    replace B1 := Lib.hid (kbS B1.out hb)
    replace WB := Lib.hid (belowT WB.out hb)
    clear hb
    clear st0 st1 st2 tm0 tm1 b10 b11 b12
    obtain ⟨st0, st1, st2⟩ := cells3S ST.out
    obtain ⟨tm0, tm1⟩ := cells2S TM.out
    obtain ⟨b10, b11, b12⟩ := cells3S B1.out
    obtain ⟨A2, hA2⟩ : ∃ A, w9.heap.size = A := ⟨_, rfl⟩
    obtain ⟨V2, hV2⟩ : ∃ V, w9.alloc (.cells #[.int .i64 x1, .int .i64 x2, .int .i64 x3] 25) = V := ⟨_, rfl⟩
    have hb : Below w9.heap.size w9 V2 := hV2 ▸ belowA (Below.refl _ w9) _
    have B2 := Lib.hid (show V2.heap[A2]? = some (.cells #[.int .i64 x1, .int .i64 x2, .int .i64 x3] 25 (0, 0)) from by rw [← hV2, ← hA2]; exact World.alloc_heap_new w9 _)
    replace ST := Lib.hid (kbS ST.out hb)
    replace TM := Lib.hid (kbS TM.out hb)
    replace B1 := Lib.hid (kbS B1.out hb)
    replace WB := Lib.hid (belowT WB.out hb)
    clear st0 st1 st2 tm0 tm1 b10 b11 b12
    have HV2 := Lib.hid (And.intro hV2 hA2)
    clear hb hV2 hA2
    obtain ⟨st0, st1, st2⟩ := cells3S ST.out
    obtain ⟨tm0, tm1⟩ := cells2S TM.out
    obtain ⟨b10, b11, b12⟩ := cells3S B1.out
    obtain ⟨b20, b21, b22⟩ := cells3S B2.out
    rw [← HV2.out.1] at st0 st1 st2 tm0 tm1 b10 b11 b12 b20 b21 b22
    go_wp2_with fail
    rw [HV2.out.1]
    simp only [HV2.out.2]
    clear HV2
    refine (of_c _ _ _ _).mono ?_
    rintro e w10 ⟨rfl, hb⟩
    replace ST := Lib.hid (kbS ST.out hb)
    replace TM := Lib.hid (kbS TM.out hb)
    replace B1 := Lib.hid (kbS B1.out hb)
    replace B2 := Lib.hid (kbS B2.out hb)
    replace WB := Lib.hid (belowT WB.out hb)
    clear hb
    clear st0 st1 st2 tm0 tm1 b10 b11 b12 b20 b21 b22
    obtain ⟨st0, st1, st2⟩ := cells3S ST.out
    obtain ⟨tm0, tm1⟩ := cells2S TM.out
    obtain ⟨b10, b11, b12⟩ := cells3S B1.out
    obtain ⟨b20, b21, b22⟩ := cells3S B2.out
    go_wp2_with fail
    refine (K2.out _ WB.out).mono ?_
    rintro e w11 ⟨rfl, hb⟩
    replace ST := Lib.hid (kbS ST.out hb)
    replace TM := Lib.hid (kbS TM.out hb)
    replace B1 := Lib.hid (kbS B1.out hb)
    replace B2 := Lib.hid (kbS B2.out hb)
    replace WB := Lib.hid (belowT WB.out hb)
    clear hb
    clear st0 st1 st2 tm0 tm1 b10 b11 b12 b20 b21 b22
    obtain ⟨st0, st1, st2⟩ := cells3S ST.out
    obtain ⟨tm0, tm1⟩ := cells2S TM.out
    obtain ⟨b10, b11, b12⟩ := cells3S B1.out
    obtain ⟨b20, b21, b22⟩ := cells3S B2.out
    obtain ⟨A3, hA3⟩ : ∃ A, w11.heap.size = A := ⟨_, rfl⟩
    obtain ⟨V3, hV3⟩ : ∃ V, w11.alloc (.cells #[.int .i64 y1, .int .i64 y2, .int .i64 y3] 27) = V := ⟨_, rfl⟩
    have hb : Below w11.heap.size w11 V3 := hV3 ▸ belowA (Below.refl _ w11) _
    have B3 := Lib.hid (show V3.heap[A3]? = some (.cells #[.int .i64 y1, .int .i64 y2, .int .i64 y3] 27 (0, 0)) from by rw [← hV3, ← hA3]; exact World.alloc_heap_new w11 _)
    replace ST := Lib.hid (kbS ST.out hb)
    replace TM := Lib.hid (kbS TM.out hb)
    replace B1 := Lib.hid (kbS B1.out hb)
    replace B2 := Lib.hid (kbS B2.out hb)
    replace WB := Lib.hid (belowT WB.out hb)
    clear st0 st1 st2 tm0 tm1 b10 b11 b12 b20 b21 b22
    have HV3 := Lib.hid (And.intro hV3 hA3)
    clear hb hV3 hA3
    obtain ⟨st0, st1, st2⟩ := cells3S ST.out
    obtain ⟨tm0, tm1⟩ := cells2S TM.out
    obtain ⟨b10, b11, b12⟩ := cells3S B1.out
    obtain ⟨b20, b21, b22⟩ := cells3S B2.out
    obtain ⟨b30, b31, b32⟩ := cells3S B3.out
    rw [← HV3.out.1] at st0 st1 st2 tm0 tm1 b10 b11 b12 b20 b21 b22 b30 b31 b32
    go_wp2_with fail
    rw [HV3.out.1]
    simp only [HV3.out.2]
    clear HV3
    refine (R2.out _).mono ?_
    rintro e w12 ⟨rfl, hb⟩
    replace ST := Lib.hid (kbS ST.out hb)
    replace TM := Lib.hid (kbS TM.out hb)
    replace B1 := Lib.hid (kbS B1.out hb)
    replace B2 := Lib.hid (kbS B2.out hb)
    replace B3 := Lib.hid (kbS B3.out hb)
    replace WB := Lib.hid (belowT WB.out hb)
    clear hb
    clear st0 st1 st2 tm0 tm1 b10 b11 b12 b20 b21 b22 b30 b31 b32
    obtain ⟨st0, st1, st2⟩ := cells3S ST.out
    obtain ⟨tm0, tm1⟩ := cells2S TM.out
    obtain ⟨b10, b11, b12⟩ := cells3S B1.out
    obtain ⟨b20, b21, b22⟩ := cells3S B2.out
    obtain ⟨b30, b31, b32⟩ := cells3S B3.out
    obtain ⟨A4, hA4⟩ : ∃ A, w12.heap.size = A := ⟨_, rfl⟩
    obtain ⟨V4, hV4⟩ : ∃ V, w12.alloc (.cells #[.int .i64 y1, .int .i64 y2, .int .i64 y3] 25) = V := ⟨_, rfl⟩
    have hb : Below w12.heap.size w12 V4 := hV4 ▸ belowA (Below.refl _ w12) _
    have B4 := Lib.hid (show V4.heap[A4]? = some (.cells #[.int .i64 y1, .int .i64 y2, .int .i64 y3] 25 (0, 0)) from by rw [← hV4, ← hA4]; exact World.alloc_heap_new w12 _)
    replace ST := Lib.hid (kbS ST.out hb)
    replace TM := Lib.hid (kbS TM.out hb)
    replace B1 := Lib.hid (kbS B1.out hb)
    replace B2 := Lib.hid (kbS B2.out hb)
    replace B3 := Lib.hid (kbS B3.out hb)
    replace WB := Lib.hid (belowT WB.out hb)
    clear st0 st1 st2 tm0 tm1 b10 b11 b12 b20 b21 b22 b30 b31 b32
    have HV4 := Lib.hid (And.intro hV4 hA4)
    clear hb hV4 hA4
    obtain ⟨st0, st1, st2⟩ := cells3S ST.out
    obtain ⟨tm0, tm1⟩ := cells2S TM.out
    obtain ⟨b10, b11, b12⟩ := cells3S B1.out
    obtain ⟨b20, b21, b22⟩ := cells3S B2.out
    obtain ⟨b30, b31, b32⟩ := cells3S B3.out
    obtain ⟨b40, b41, b42⟩ := cells3S B4.out
    rw [← HV4.out.1] at st0 st1 st2 tm0 tm1 b10 b11 b12 b20 b21 b22 b30 b31 b32 b40 b41 b42
    go_wp2_with fail
    rw [HV4.out.1]
    simp only [HV4.out.2]
    clear HV4
    clear st0 st1 st2 tm0 tm1 b10 b11 b12 b20 b21 b22 b30 b31 b32 b40 b41 b42
    obtain ⟨st0, st1, st2⟩ := cells3S ST.out
    obtain ⟨tm0, tm1⟩ := cells2S TM.out
    obtain ⟨b10, b11, b12⟩ := cells3S B1.out
    obtain ⟨b20, b21, b22⟩ := cells3S B2.out
    obtain ⟨b30, b31, b32⟩ := cells3S B3.out
    obtain ⟨b40, b41, b42⟩ := cells3S B4.out
    have WB2 := WB.out
    go_region_held3 (fun w' => w'.cell? ⟨A1, 0, none⟩ = some (.int .i64 x1) ∧ w'.cell? ⟨A1, 1, none⟩ = some (.int .i64 x2) ∧ w'.cell? ⟨A1, 2, none⟩ = some (.int .i64 x3) ∧ w'.cell? ⟨A2, 0, none⟩ = some (.int .i64 x1) ∧ w'.cell? ⟨A2, 1, none⟩ = some (.int .i64 x2) ∧ w'.cell? ⟨A2, 2, none⟩ = some (.int .i64 x3) ∧ w'.cell? ⟨A3, 0, none⟩ = some (.int .i64 y1) ∧ w'.cell? ⟨A3, 1, none⟩ = some (.int .i64 y2) ∧ w'.cell? ⟨A3, 2, none⟩ = some (.int .i64 y3) ∧ w'.cell? ⟨A4, 0, none⟩ = some (.int .i64 y1) ∧ w'.cell? ⟨A4, 1, none⟩ = some (.int .i64 y2) ∧ w'.cell? ⟨A4, 2, none⟩ = some (.int .i64 y3) ∧ Below w.heap.size w w')
      (first | (go_split_ands; with_reducible exact ⟨keepc hb (by assumption), keepc hb (by assumption), keepc hb (by assumption), keepc hb (by assumption), keepc hb (by assumption), keepc hb (by assumption), keepc hb (by assumption), keepc hb (by assumption), keepc hb (by assumption), keepc hb (by assumption), keepc hb (by assumption), keepc hb (by assumption), belowT (by assumption) hb⟩) | exact ⟨b10, b11, b12, b20, b21, b22, b30, b31, b32, b40, b41, b42, Below.drew WB2⟩ | go_keep)
      (first
        | (go_at_call 10; refine (K0.out _ (by first | with_reducible assumption | (go_split_ands; with_reducible assumption))).mono ?_; rintro e w6 ⟨rfl, hb⟩)
        | (go_at_call 20; refine (plain_c _ _ _ _).mono ?_; rintro e w6 ⟨rfl, hb⟩))
    all_goals go_wp2
    all_goals go_ret
    all_goals exact ⟨ret_bool (by simp), (by repeat (first | with_reducible assumption | with_reducible exact Below.refl _ _ | with_reducible refine belowN ?_ _ | with_reducible refine Below.drew ?_ | with_reducible refine belowA ?_ _ | with_reducible refine belowT ?_ (by assumption)))⟩
end Go.Proofs.YtmkclkppolfpnaaDoor
