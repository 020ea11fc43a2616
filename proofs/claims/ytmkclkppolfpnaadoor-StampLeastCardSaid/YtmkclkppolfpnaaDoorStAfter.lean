/-
  The contracts of the given package gavotteref06's Never and After over this seat's translation. Conditions: the numbers are ints.
-/
import Derived.Test.YtmkclkppolfpnaaDoorMG
import Derived.Test.YtmkclkppolfpnaaDoorMF
namespace Go.Proofs.YtmkclkppolfpnaaDoor
open Go.RowKit

set_option maxHeartbeats 4000000 in
theorem r6never_c (w : World) : Calls Tryd.prog 21 #[] w fun e w' => e = .returned (stV 1 0 0) ∧ Below w.heap.size w w' := by
  go_enter Tryd.func21, Tryd.ntmps21
  go_wp2
  exact bodyPost_ret (v := stV 1 0 0) (by simp [results, Tryd.results21, go_sem]) rfl ⟨rfl, belowA (Below.refl _ w) _⟩

theorem cells2 {W : World} {b : Nat} {u v : Value} {t : TypeId} (h : W.heap[b]? = some (.cells #[u, v] t (0, 0))) : W.cell? ⟨b, 0, none⟩ = some u ∧ W.cell? ⟨b, 1, none⟩ = some v := by
  refine ⟨?_, ?_⟩ <;> (unfold World.cell?; rw [h]; rfl)
/-- After's own memory. -/
structure AfI (w : World) (n d c tn td : Int) (wr : World) : Prop where
  below : Below w.heap.size w wr
  st : wr.heap[w.heap.size]? = some (.cells #[.int .i64 n, .int .i64 d, .int .i64 c] 25 (0, 0))
  tm : wr.heap[w.heap.size + 1]? = some (.cells #[.int .i64 tn, .int .i64 td] 23 (0, 0))
  res : wr.heap[w.heap.size + 1 + 1]? = some (.cells #[.int .i64 0, .int .i64 0, .int .i64 0] 25 (0, 0))
theorem AfI.on {w wr W : World} {n d c tn td : Int} (h : AfI w n d c tn td wr) (hb : Below wr.heap.size wr W) : AfI w n d c tn td W :=
  ⟨belowT h.below hb, (hb.block _ (Array.getElem?_eq_some_iff.1 h.st).1).trans h.st, (hb.block _ (Array.getElem?_eq_some_iff.1 h.tm).1).trans h.tm, (hb.block _ (Array.getElem?_eq_some_iff.1 h.res).1).trans h.res⟩
/-- What After answers, as a value. -/
def afV (s : (Int × Int × Int) × Int) : Value := .tuple #[stV s.1.1 s.1.2.1 s.1.2.2, .int .i64 s.2]

set_option maxHeartbeats 16000000 in
set_option maxRecDepth 100000 in
theorem r6after_c (n d c tn td : Int) (hs : In3 n d c) (ht : In64 tn ∧ In64 td) (w : World) :
    Calls Tryd.prog 18 #[stV n d c, .agg #[.int .i64 tn, .int .i64 td]] w fun e w' => e = .returned (afV (sAfter n d c tn td)) ∧ Below w.heap.size w w' := by
  have K1 := Lib.hid (r6right_c n d c hs)
  have K2 := Lib.hid (rnever_c n d)
  have K3 := Lib.hid (rright_c tn td ht.1 ht.2)
  have K4 := Lib.hid (rnever_c tn td)
  have K5 := Lib.hid r6never_c
  have K6 := Lib.hid (radd_c n d tn td ⟨hs.1, hs.2.1⟩ ht)
  have hcz := hs.2.2
  have HC := Lib.hid (show sRight n d c = true → c ≤ 1099511627776 ∧ 0 ≤ c from fun h => ⟨(sRight_iff.1 h).2.1.2, (sRight_iff.1 h).2.1.1⟩)
  obtain ⟨W0, hW0⟩ : ∃ W0, ((w.alloc (.cells #[.int .i64 n, .int .i64 d, .int .i64 c] 25)).alloc (.cells #[.int .i64 tn, .int .i64 td] 23)).alloc (.cells #[.int .i64 0, .int .i64 0, .int .i64 0] 25) = W0 := ⟨_, rfl⟩
  have HA : Hid (AfI w n d c tn td W0) := Lib.hid (by
    rw [← hW0]
    refine ⟨belowA (belowA (belowA (Below.refl _ w) _) _) _, ?_, ?_, ?_⟩
    · rw [Below.heap_alloc _ _ _ (by simp; omega), Below.heap_alloc _ _ _ (by simp)]
      exact World.alloc_heap_new w _
    · rw [Below.heap_alloc _ _ _ (by simp)]
      have := World.alloc_heap_new (w.alloc (.cells #[.int .i64 n, .int .i64 d, .int .i64 c] 25)) (.cells #[.int .i64 tn, .int .i64 td] 23)
      rw [World.size_alloc] at this
      exact this
    · have := World.alloc_heap_new ((w.alloc (.cells #[.int .i64 n, .int .i64 d, .int .i64 c] 25)).alloc (.cells #[.int .i64 tn, .int .i64 td] 23)) (.cells #[.int .i64 0, .int .i64 0, .int .i64 0] 25)
      rw [World.size_alloc, World.size_alloc] at this
      exact this)
  have HW := Lib.hid hW0
  obtain ⟨S, hS⟩ : ∃ S, sAfter n d c tn td = S := ⟨_, rfl⟩
  rw [hS]
  have HSD := Lib.hid (show S = if sRight n d c = true ∧ ¬ isNever n d ∧ rightB tn td = true then
    if isNever tn td then ((1, 0, 0), 0) else if tn = 0 then (if c = 1099511627776 then ((0, 0, 0), 2) else ((n, d, c + 1), 0)) else (((addS n d tn td).1, (addS n d tn td).2.1, 0), (addS n d tn td).2.2)
  else ((0, 0, 0), 1) from hS.symm)
  clear hS hs ht hW0
  by_cases r1 : sRight n d c = true
  · rw [r1] at K1
    by_cases v1 : isNever n d
    · have hv := decide_eq_true v1
      rw [hv] at K2
      have HS := Lib.hid (show S = ((0, 0, 0), 1) from by rw [HSD.out]; rw [if_neg (fun h => h.2.1 v1)])
      clear v1 hv r1 HSD
      go_enter Tryd.func18, Tryd.ntmps18
      go_wp2_with fail
      rw [HW.out]
      clear HW
      refine ((K1).out _).mono ?_
      rintro e w1 ⟨rfl, hb⟩
      replace HA := Lib.hid (HA.out.on hb)
      clear hb
      obtain ⟨a0, a1, a2⟩ := cells3 HA.out.st (Below.refl _ _)
      obtain ⟨t0, t1⟩ := cells2 HA.out.tm
      obtain ⟨z0, z1, z2⟩ := cells3 HA.out.res (Below.refl _ _)
      have f0 := frozen_of_row _ (w.heap.size + 1 + 1) 0 _ _ HA.out.res
      have f1 := frozen_of_row _ (w.heap.size + 1 + 1) 1 _ _ HA.out.res
      have f2 := frozen_of_row _ (w.heap.size + 1 + 1) 2 _ _ HA.out.res
      go_wp2_with fail
      clear a0 a1 a2 t0 t1 z0 z1 z2 f0 f1 f2
      refine ((K2).out _).mono ?_
      rintro e w2 ⟨rfl, hb⟩
      replace HA := Lib.hid (HA.out.on hb)
      clear hb
      obtain ⟨a0, a1, a2⟩ := cells3 HA.out.st (Below.refl _ _)
      obtain ⟨t0, t1⟩ := cells2 HA.out.tm
      obtain ⟨z0, z1, z2⟩ := cells3 HA.out.res (Below.refl _ _)
      have f0 := frozen_of_row _ (w.heap.size + 1 + 1) 0 _ _ HA.out.res
      have f1 := frozen_of_row _ (w.heap.size + 1 + 1) 1 _ _ HA.out.res
      have f2 := frozen_of_row _ (w.heap.size + 1 + 1) 2 _ _ HA.out.res
      go_wp2
      rw [HS.out]
      exact bodyPost_ret (v := .tuple #[stV (0) (0) (0), .int .i64 (1)]) (by simp [results, Tryd.results18, go_sem, z0, z1, z2]) rfl ⟨by rfl, (by have WB := HA.out.below; repeat (first | assumption | refine belowS ?_ (by omega) _))⟩
    · rw [decide_eq_false v1] at K2
      by_cases r2 : rightB tn td = true
      · rw [r2] at K3
        by_cases v2 : isNever tn td
        · rw [decide_eq_true v2] at K4
          have HS := Lib.hid (show S = ((1, 0, 0), 0) from by rw [HSD.out]; rw [if_pos ⟨r1, v1, r2⟩, if_pos v2])
          clear r1 r2 v1 v2 HSD
          go_enter Tryd.func18, Tryd.ntmps18
          go_wp2_with fail
          rw [HW.out]
          clear HW
          refine ((K1).out _).mono ?_
          rintro e w1 ⟨rfl, hb⟩
          replace HA := Lib.hid (HA.out.on hb)
          clear hb
          obtain ⟨a0, a1, a2⟩ := cells3 HA.out.st (Below.refl _ _)
          obtain ⟨t0, t1⟩ := cells2 HA.out.tm
          obtain ⟨z0, z1, z2⟩ := cells3 HA.out.res (Below.refl _ _)
          have f0 := frozen_of_row _ (w.heap.size + 1 + 1) 0 _ _ HA.out.res
          have f1 := frozen_of_row _ (w.heap.size + 1 + 1) 1 _ _ HA.out.res
          have f2 := frozen_of_row _ (w.heap.size + 1 + 1) 2 _ _ HA.out.res
          go_wp2_with fail
          clear a0 a1 a2 t0 t1 z0 z1 z2 f0 f1 f2
          refine ((K2).out _).mono ?_
          rintro e w2 ⟨rfl, hb⟩
          replace HA := Lib.hid (HA.out.on hb)
          clear hb
          obtain ⟨a0, a1, a2⟩ := cells3 HA.out.st (Below.refl _ _)
          obtain ⟨t0, t1⟩ := cells2 HA.out.tm
          obtain ⟨z0, z1, z2⟩ := cells3 HA.out.res (Below.refl _ _)
          have f0 := frozen_of_row _ (w.heap.size + 1 + 1) 0 _ _ HA.out.res
          have f1 := frozen_of_row _ (w.heap.size + 1 + 1) 1 _ _ HA.out.res
          have f2 := frozen_of_row _ (w.heap.size + 1 + 1) 2 _ _ HA.out.res
          go_wp2_with fail
          clear a0 a1 a2 t0 t1 z0 z1 z2 f0 f1 f2
          refine ((K3).out _).mono ?_
          rintro e w3 ⟨rfl, hb⟩
          replace HA := Lib.hid (HA.out.on hb)
          clear hb
          obtain ⟨a0, a1, a2⟩ := cells3 HA.out.st (Below.refl _ _)
          obtain ⟨t0, t1⟩ := cells2 HA.out.tm
          obtain ⟨z0, z1, z2⟩ := cells3 HA.out.res (Below.refl _ _)
          have f0 := frozen_of_row _ (w.heap.size + 1 + 1) 0 _ _ HA.out.res
          have f1 := frozen_of_row _ (w.heap.size + 1 + 1) 1 _ _ HA.out.res
          have f2 := frozen_of_row _ (w.heap.size + 1 + 1) 2 _ _ HA.out.res
          go_wp2_with fail
          clear a0 a1 a2 t0 t1 z0 z1 z2 f0 f1 f2
          refine ((K4).out _).mono ?_
          rintro e w4 ⟨rfl, hb⟩
          replace HA := Lib.hid (HA.out.on hb)
          clear hb
          obtain ⟨a0, a1, a2⟩ := cells3 HA.out.st (Below.refl _ _)
          obtain ⟨t0, t1⟩ := cells2 HA.out.tm
          obtain ⟨z0, z1, z2⟩ := cells3 HA.out.res (Below.refl _ _)
          have f0 := frozen_of_row _ (w.heap.size + 1 + 1) 0 _ _ HA.out.res
          have f1 := frozen_of_row _ (w.heap.size + 1 + 1) 1 _ _ HA.out.res
          have f2 := frozen_of_row _ (w.heap.size + 1 + 1) 2 _ _ HA.out.res
          go_wp2_with fail
          clear a0 a1 a2 t0 t1 z0 z1 z2 f0 f1 f2
          refine ((K5).out _).mono ?_
          rintro e w5 ⟨rfl, hb⟩
          replace HA := Lib.hid (HA.out.on hb)
          clear hb
          obtain ⟨a0, a1, a2⟩ := cells3 HA.out.st (Below.refl _ _)
          obtain ⟨t0, t1⟩ := cells2 HA.out.tm
          obtain ⟨z0, z1, z2⟩ := cells3 HA.out.res (Below.refl _ _)
          have f0 := frozen_of_row _ (w.heap.size + 1 + 1) 0 _ _ HA.out.res
          have f1 := frozen_of_row _ (w.heap.size + 1 + 1) 1 _ _ HA.out.res
          have f2 := frozen_of_row _ (w.heap.size + 1 + 1) 2 _ _ HA.out.res
          go_wp2
          rw [HS.out]
          exact bodyPost_ret (v := .tuple #[stV (1) (0) (0), .int .i64 (0)]) (by simp [results, Tryd.results18, go_sem, z0, z1, z2]) rfl ⟨by rfl, (by have WB := HA.out.below; repeat (first | assumption | refine belowS ?_ (by omega) _))⟩
        · rw [decide_eq_false v2] at K4
          by_cases hz0 : tn = 0
          · subst hz0
            by_cases hc : c = 1099511627776
            · subst hc
              have hz : ((1099511627776 : Int) == 1099511627776) = true := by decide
              have HS := Lib.hid (show S = ((0, 0, 0), 2) from by rw [HSD.out]; rw [if_pos ⟨r1, v1, r2⟩, if_neg v2, if_pos rfl, if_pos rfl])
              clear r1 r2 v1 v2 HSD
              go_enter Tryd.func18, Tryd.ntmps18
              go_wp2_with fail
              rw [HW.out]
              clear HW
              refine ((K1).out _).mono ?_
              rintro e w1 ⟨rfl, hb⟩
              replace HA := Lib.hid (HA.out.on hb)
              clear hb
              obtain ⟨a0, a1, a2⟩ := cells3 HA.out.st (Below.refl _ _)
              obtain ⟨t0, t1⟩ := cells2 HA.out.tm
              obtain ⟨z0, z1, z2⟩ := cells3 HA.out.res (Below.refl _ _)
              have f0 := frozen_of_row _ (w.heap.size + 1 + 1) 0 _ _ HA.out.res
              have f1 := frozen_of_row _ (w.heap.size + 1 + 1) 1 _ _ HA.out.res
              have f2 := frozen_of_row _ (w.heap.size + 1 + 1) 2 _ _ HA.out.res
              go_wp2_with fail
              clear a0 a1 a2 t0 t1 z0 z1 z2 f0 f1 f2
              refine ((K2).out _).mono ?_
              rintro e w2 ⟨rfl, hb⟩
              replace HA := Lib.hid (HA.out.on hb)
              clear hb
              obtain ⟨a0, a1, a2⟩ := cells3 HA.out.st (Below.refl _ _)
              obtain ⟨t0, t1⟩ := cells2 HA.out.tm
              obtain ⟨z0, z1, z2⟩ := cells3 HA.out.res (Below.refl _ _)
              have f0 := frozen_of_row _ (w.heap.size + 1 + 1) 0 _ _ HA.out.res
              have f1 := frozen_of_row _ (w.heap.size + 1 + 1) 1 _ _ HA.out.res
              have f2 := frozen_of_row _ (w.heap.size + 1 + 1) 2 _ _ HA.out.res
              go_wp2_with fail
              clear a0 a1 a2 t0 t1 z0 z1 z2 f0 f1 f2
              refine ((K3).out _).mono ?_
              rintro e w3 ⟨rfl, hb⟩
              replace HA := Lib.hid (HA.out.on hb)
              clear hb
              obtain ⟨a0, a1, a2⟩ := cells3 HA.out.st (Below.refl _ _)
              obtain ⟨t0, t1⟩ := cells2 HA.out.tm
              obtain ⟨z0, z1, z2⟩ := cells3 HA.out.res (Below.refl _ _)
              have f0 := frozen_of_row _ (w.heap.size + 1 + 1) 0 _ _ HA.out.res
              have f1 := frozen_of_row _ (w.heap.size + 1 + 1) 1 _ _ HA.out.res
              have f2 := frozen_of_row _ (w.heap.size + 1 + 1) 2 _ _ HA.out.res
              go_wp2_with fail
              clear a0 a1 a2 t0 t1 z0 z1 z2 f0 f1 f2
              refine ((K4).out _).mono ?_
              rintro e w4 ⟨rfl, hb⟩
              replace HA := Lib.hid (HA.out.on hb)
              clear hb
              obtain ⟨a0, a1, a2⟩ := cells3 HA.out.st (Below.refl _ _)
              obtain ⟨t0, t1⟩ := cells2 HA.out.tm
              obtain ⟨z0, z1, z2⟩ := cells3 HA.out.res (Below.refl _ _)
              have f0 := frozen_of_row _ (w.heap.size + 1 + 1) 0 _ _ HA.out.res
              have f1 := frozen_of_row _ (w.heap.size + 1 + 1) 1 _ _ HA.out.res
              have f2 := frozen_of_row _ (w.heap.size + 1 + 1) 2 _ _ HA.out.res
              go_wp2
              rw [HS.out]
              exact bodyPost_ret (v := .tuple #[stV (0) (0) (0), .int .i64 (2)]) (by simp [results, Tryd.results18, go_sem, z0, z1, z2]) rfl ⟨by rfl, (by have WB := HA.out.below; repeat (first | assumption | refine belowS ?_ (by omega) _))⟩
            · have hz : (c == 1099511627776) = false := by simpa using hc
              have hw : IntKind.i64.wrap (c + 1) = c + 1 := by have := HC.out r1; rw [IntKind.wrap_i64] <;> omega
              have HS := Lib.hid (show S = ((n, d, c + 1), 0) from by rw [HSD.out]; rw [if_pos ⟨r1, v1, r2⟩, if_neg v2, if_pos rfl, if_neg hc])
              clear r1 r2 v1 v2 HSD
              go_enter Tryd.func18, Tryd.ntmps18
              go_wp2_with fail
              rw [HW.out]
              clear HW
              refine ((K1).out _).mono ?_
              rintro e w1 ⟨rfl, hb⟩
              replace HA := Lib.hid (HA.out.on hb)
              clear hb
              obtain ⟨a0, a1, a2⟩ := cells3 HA.out.st (Below.refl _ _)
              obtain ⟨t0, t1⟩ := cells2 HA.out.tm
              obtain ⟨z0, z1, z2⟩ := cells3 HA.out.res (Below.refl _ _)
              have f0 := frozen_of_row _ (w.heap.size + 1 + 1) 0 _ _ HA.out.res
              have f1 := frozen_of_row _ (w.heap.size + 1 + 1) 1 _ _ HA.out.res
              have f2 := frozen_of_row _ (w.heap.size + 1 + 1) 2 _ _ HA.out.res
              go_wp2_with fail
              clear a0 a1 a2 t0 t1 z0 z1 z2 f0 f1 f2
              refine ((K2).out _).mono ?_
              rintro e w2 ⟨rfl, hb⟩
              replace HA := Lib.hid (HA.out.on hb)
              clear hb
              obtain ⟨a0, a1, a2⟩ := cells3 HA.out.st (Below.refl _ _)
              obtain ⟨t0, t1⟩ := cells2 HA.out.tm
              obtain ⟨z0, z1, z2⟩ := cells3 HA.out.res (Below.refl _ _)
              have f0 := frozen_of_row _ (w.heap.size + 1 + 1) 0 _ _ HA.out.res
              have f1 := frozen_of_row _ (w.heap.size + 1 + 1) 1 _ _ HA.out.res
              have f2 := frozen_of_row _ (w.heap.size + 1 + 1) 2 _ _ HA.out.res
              go_wp2_with fail
              clear a0 a1 a2 t0 t1 z0 z1 z2 f0 f1 f2
              refine ((K3).out _).mono ?_
              rintro e w3 ⟨rfl, hb⟩
              replace HA := Lib.hid (HA.out.on hb)
              clear hb
              obtain ⟨a0, a1, a2⟩ := cells3 HA.out.st (Below.refl _ _)
              obtain ⟨t0, t1⟩ := cells2 HA.out.tm
              obtain ⟨z0, z1, z2⟩ := cells3 HA.out.res (Below.refl _ _)
              have f0 := frozen_of_row _ (w.heap.size + 1 + 1) 0 _ _ HA.out.res
              have f1 := frozen_of_row _ (w.heap.size + 1 + 1) 1 _ _ HA.out.res
              have f2 := frozen_of_row _ (w.heap.size + 1 + 1) 2 _ _ HA.out.res
              go_wp2_with fail
              clear a0 a1 a2 t0 t1 z0 z1 z2 f0 f1 f2
              refine ((K4).out _).mono ?_
              rintro e w4 ⟨rfl, hb⟩
              replace HA := Lib.hid (HA.out.on hb)
              clear hb
              obtain ⟨a0, a1, a2⟩ := cells3 HA.out.st (Below.refl _ _)
              obtain ⟨t0, t1⟩ := cells2 HA.out.tm
              obtain ⟨z0, z1, z2⟩ := cells3 HA.out.res (Below.refl _ _)
              have f0 := frozen_of_row _ (w.heap.size + 1 + 1) 0 _ _ HA.out.res
              have f1 := frozen_of_row _ (w.heap.size + 1 + 1) 1 _ _ HA.out.res
              have f2 := frozen_of_row _ (w.heap.size + 1 + 1) 2 _ _ HA.out.res
              go_wp2
              rw [HS.out]
              exact bodyPost_ret (v := .tuple #[stV (n) (d) (c + 1), .int .i64 (0)]) (by simp [results, Tryd.results18, go_sem, z0, z1, z2]) rfl ⟨by rfl, (by have WB := HA.out.below; repeat (first | assumption | refine belowS ?_ (by omega) _))⟩
          · have hz : (tn == 0) = false := by simpa using hz0
            have HS := Lib.hid (show S = (((addS n d tn td).1, (addS n d tn td).2.1, 0), (addS n d tn td).2.2) from by rw [HSD.out]; rw [if_pos ⟨r1, v1, r2⟩, if_neg v2, if_neg hz0])
            obtain ⟨⟨x, y, z⟩, ha⟩ : ∃ t, addS n d tn td = t := ⟨_, rfl⟩
            rw [ha] at K6 HS
            dsimp only at HS
            have K6 : Hid (∀ w : World, Calls Tryd.prog 38 #[.agg #[.int .i64 n, .int .i64 d], .agg #[.int .i64 tn, .int .i64 td]] w fun e w' => e = .returned (.tuple #[.agg #[.int .i64 x, .int .i64 y], .int .i64 z]) ∧ Below w.heap.size w w') := K6
            clear r1 r2 v1 v2 HSD ha hz0
            go_enter Tryd.func18, Tryd.ntmps18
            go_wp2_with fail
            rw [HW.out]
            clear HW
            refine ((K1).out _).mono ?_
            rintro e w1 ⟨rfl, hb⟩
            replace HA := Lib.hid (HA.out.on hb)
            clear hb
            obtain ⟨a0, a1, a2⟩ := cells3 HA.out.st (Below.refl _ _)
            obtain ⟨t0, t1⟩ := cells2 HA.out.tm
            obtain ⟨z0, z1, z2⟩ := cells3 HA.out.res (Below.refl _ _)
            have f0 := frozen_of_row _ (w.heap.size + 1 + 1) 0 _ _ HA.out.res
            have f1 := frozen_of_row _ (w.heap.size + 1 + 1) 1 _ _ HA.out.res
            have f2 := frozen_of_row _ (w.heap.size + 1 + 1) 2 _ _ HA.out.res
            go_wp2_with fail
            clear a0 a1 a2 t0 t1 z0 z1 z2 f0 f1 f2
            refine ((K2).out _).mono ?_
            rintro e w2 ⟨rfl, hb⟩
            replace HA := Lib.hid (HA.out.on hb)
            clear hb
            obtain ⟨a0, a1, a2⟩ := cells3 HA.out.st (Below.refl _ _)
            obtain ⟨t0, t1⟩ := cells2 HA.out.tm
            obtain ⟨z0, z1, z2⟩ := cells3 HA.out.res (Below.refl _ _)
            have f0 := frozen_of_row _ (w.heap.size + 1 + 1) 0 _ _ HA.out.res
            have f1 := frozen_of_row _ (w.heap.size + 1 + 1) 1 _ _ HA.out.res
            have f2 := frozen_of_row _ (w.heap.size + 1 + 1) 2 _ _ HA.out.res
            go_wp2_with fail
            clear a0 a1 a2 t0 t1 z0 z1 z2 f0 f1 f2
            refine ((K3).out _).mono ?_
            rintro e w3 ⟨rfl, hb⟩
            replace HA := Lib.hid (HA.out.on hb)
            clear hb
            obtain ⟨a0, a1, a2⟩ := cells3 HA.out.st (Below.refl _ _)
            obtain ⟨t0, t1⟩ := cells2 HA.out.tm
            obtain ⟨z0, z1, z2⟩ := cells3 HA.out.res (Below.refl _ _)
            have f0 := frozen_of_row _ (w.heap.size + 1 + 1) 0 _ _ HA.out.res
            have f1 := frozen_of_row _ (w.heap.size + 1 + 1) 1 _ _ HA.out.res
            have f2 := frozen_of_row _ (w.heap.size + 1 + 1) 2 _ _ HA.out.res
            go_wp2_with fail
            clear a0 a1 a2 t0 t1 z0 z1 z2 f0 f1 f2
            refine ((K4).out _).mono ?_
            rintro e w4 ⟨rfl, hb⟩
            replace HA := Lib.hid (HA.out.on hb)
            clear hb
            obtain ⟨a0, a1, a2⟩ := cells3 HA.out.st (Below.refl _ _)
            obtain ⟨t0, t1⟩ := cells2 HA.out.tm
            obtain ⟨z0, z1, z2⟩ := cells3 HA.out.res (Below.refl _ _)
            have f0 := frozen_of_row _ (w.heap.size + 1 + 1) 0 _ _ HA.out.res
            have f1 := frozen_of_row _ (w.heap.size + 1 + 1) 1 _ _ HA.out.res
            have f2 := frozen_of_row _ (w.heap.size + 1 + 1) 2 _ _ HA.out.res
            go_wp2_with fail
            clear a0 a1 a2 t0 t1 z0 z1 z2 f0 f1 f2
            refine ((K6).out _).mono ?_
            rintro e w6 ⟨rfl, hb⟩
            replace HA := Lib.hid (HA.out.on hb)
            clear hb
            obtain ⟨a0, a1, a2⟩ := cells3 HA.out.st (Below.refl _ _)
            obtain ⟨t0, t1⟩ := cells2 HA.out.tm
            obtain ⟨z0, z1, z2⟩ := cells3 HA.out.res (Below.refl _ _)
            have f0 := frozen_of_row _ (w.heap.size + 1 + 1) 0 _ _ HA.out.res
            have f1 := frozen_of_row _ (w.heap.size + 1 + 1) 1 _ _ HA.out.res
            have f2 := frozen_of_row _ (w.heap.size + 1 + 1) 2 _ _ HA.out.res
            have HA7 := Lib.hid (HA.out.on (belowA (Below.refl w6.heap.size w6) (.cells #[.int .i64 x, .int .i64 y] 23)))
            obtain ⟨y0, y1, y2⟩ := cells3 HA7.out.res (Below.refl _ _)
            have g0 := frozen_of_row _ (w.heap.size + 1 + 1) 0 _ _ HA7.out.res
            have g1 := frozen_of_row _ (w.heap.size + 1 + 1) 1 _ _ HA7.out.res
            have g2 := frozen_of_row _ (w.heap.size + 1 + 1) 2 _ _ HA7.out.res
            go_wp2
            rw [HS.out]
            exact bodyPost_ret (v := .tuple #[stV (x) (y) (0), .int .i64 (z)]) (by simp [results, Tryd.results18, go_sem, y0, y1, y2]) rfl ⟨by rfl, (by have WB := HA7.out.below; repeat (first | assumption | refine belowS ?_ (by omega) _))⟩
      · rw [Bool.eq_false_iff.2 r2] at K3
        have HS := Lib.hid (show S = ((0, 0, 0), 1) from by rw [HSD.out]; rw [if_neg (fun h => r2 h.2.2)])
        clear r1 r2 v1 HSD
        go_enter Tryd.func18, Tryd.ntmps18
        go_wp2_with fail
        rw [HW.out]
        clear HW
        refine ((K1).out _).mono ?_
        rintro e w1 ⟨rfl, hb⟩
        replace HA := Lib.hid (HA.out.on hb)
        clear hb
        obtain ⟨a0, a1, a2⟩ := cells3 HA.out.st (Below.refl _ _)
        obtain ⟨t0, t1⟩ := cells2 HA.out.tm
        obtain ⟨z0, z1, z2⟩ := cells3 HA.out.res (Below.refl _ _)
        have f0 := frozen_of_row _ (w.heap.size + 1 + 1) 0 _ _ HA.out.res
        have f1 := frozen_of_row _ (w.heap.size + 1 + 1) 1 _ _ HA.out.res
        have f2 := frozen_of_row _ (w.heap.size + 1 + 1) 2 _ _ HA.out.res
        go_wp2_with fail
        clear a0 a1 a2 t0 t1 z0 z1 z2 f0 f1 f2
        refine ((K2).out _).mono ?_
        rintro e w2 ⟨rfl, hb⟩
        replace HA := Lib.hid (HA.out.on hb)
        clear hb
        obtain ⟨a0, a1, a2⟩ := cells3 HA.out.st (Below.refl _ _)
        obtain ⟨t0, t1⟩ := cells2 HA.out.tm
        obtain ⟨z0, z1, z2⟩ := cells3 HA.out.res (Below.refl _ _)
        have f0 := frozen_of_row _ (w.heap.size + 1 + 1) 0 _ _ HA.out.res
        have f1 := frozen_of_row _ (w.heap.size + 1 + 1) 1 _ _ HA.out.res
        have f2 := frozen_of_row _ (w.heap.size + 1 + 1) 2 _ _ HA.out.res
        go_wp2_with fail
        clear a0 a1 a2 t0 t1 z0 z1 z2 f0 f1 f2
        refine ((K3).out _).mono ?_
        rintro e w3 ⟨rfl, hb⟩
        replace HA := Lib.hid (HA.out.on hb)
        clear hb
        obtain ⟨a0, a1, a2⟩ := cells3 HA.out.st (Below.refl _ _)
        obtain ⟨t0, t1⟩ := cells2 HA.out.tm
        obtain ⟨z0, z1, z2⟩ := cells3 HA.out.res (Below.refl _ _)
        have f0 := frozen_of_row _ (w.heap.size + 1 + 1) 0 _ _ HA.out.res
        have f1 := frozen_of_row _ (w.heap.size + 1 + 1) 1 _ _ HA.out.res
        have f2 := frozen_of_row _ (w.heap.size + 1 + 1) 2 _ _ HA.out.res
        go_wp2
        rw [HS.out]
        exact bodyPost_ret (v := .tuple #[stV (0) (0) (0), .int .i64 (1)]) (by simp [results, Tryd.results18, go_sem, z0, z1, z2]) rfl ⟨by rfl, (by have WB := HA.out.below; repeat (first | assumption | refine belowS ?_ (by omega) _))⟩
  · rw [Bool.eq_false_iff.2 r1] at K1
    have HS := Lib.hid (show S = ((0, 0, 0), 1) from by rw [HSD.out]; rw [if_neg (fun h => r1 h.1)])
    clear r1 HSD
    go_enter Tryd.func18, Tryd.ntmps18
    go_wp2_with fail
    rw [HW.out]
    clear HW
    refine ((K1).out _).mono ?_
    rintro e w1 ⟨rfl, hb⟩
    replace HA := Lib.hid (HA.out.on hb)
    clear hb
    obtain ⟨a0, a1, a2⟩ := cells3 HA.out.st (Below.refl _ _)
    obtain ⟨t0, t1⟩ := cells2 HA.out.tm
    obtain ⟨z0, z1, z2⟩ := cells3 HA.out.res (Below.refl _ _)
    have f0 := frozen_of_row _ (w.heap.size + 1 + 1) 0 _ _ HA.out.res
    have f1 := frozen_of_row _ (w.heap.size + 1 + 1) 1 _ _ HA.out.res
    have f2 := frozen_of_row _ (w.heap.size + 1 + 1) 2 _ _ HA.out.res
    go_wp2
    rw [HS.out]
    exact bodyPost_ret (v := .tuple #[stV (0) (0) (0), .int .i64 (1)]) (by simp [results, Tryd.results18, go_sem, z0, z1, z2]) rfl ⟨by rfl, (by have WB := HA.out.below; repeat (first | assumption | refine belowS ?_ (by omega) _))⟩
end Go.Proofs.YtmkclkppolfpnaaDoor
