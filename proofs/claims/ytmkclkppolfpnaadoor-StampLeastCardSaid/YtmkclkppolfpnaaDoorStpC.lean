/-
  The contracts of package stamp over this seat's translation, third part: Next, After. Conditions: the numbers are ints.
-/
import Derived.Test.YtmkclkppolfpnaaDoorMG
import Derived.Test.YtmkclkppolfpnaaDoorStAfter
namespace Go.Proofs.YtmkclkppolfpnaaDoor
open Go.RowKit

theorem drewB (w : World) : Below w.heap.size w w.drew := Below.drew (Below.refl _ w)
/-- What is behind a stamp at once. -/
theorem sNext_no {n d c : Int} (h : ¬ (sRight n d c = true ∧ ¬ isNever n d)) : sAfter n d c 0 1 = ((0, 0, 0), 1) := by
  unfold sAfter
  rw [if_neg fun k => h ⟨k.1, k.2.1⟩]
theorem sNext_yes {n d c : Int} (h1 : sRight n d c = true) (h2 : ¬ isNever n d) : sAfter n d c 0 1 = if c = 1099511627776 then ((0, 0, 0), 2) else ((n, d, c + 1), 0) := by
  unfold sAfter
  rw [if_pos ⟨h1, h2, by decide +kernel⟩, if_neg (by decide), if_pos rfl]
theorem sAfter_nought {n d c td : Int} (h : rightB 0 td = true) : sAfter n d c 0 td = sAfter n d c 0 1 := by
  have h2 : rightB 0 1 = true := by decide +kernel
  unfold sAfter
  rw [h, h2, if_neg (show ¬ isNever 0 td from fun k => by have := k.1; omega), if_neg (show ¬ isNever 0 1 by decide), if_pos rfl, if_pos rfl]
theorem sAfter_sum {n d c tn td : Int} (h1 : sRight n d c = true) (h2 : ¬ isNever n d) (h3 : rightB tn td = true) (h4 : ¬ tn = 0) : sAfter n d c tn td = (((addS n d tn td).1, (addS n d tn td).2.1, 0), (addS n d tn td).2.2) := by
  unfold sAfter
  rw [if_pos ⟨h1, h2, h3⟩]
  by_cases hv : isNever tn td
  · rw [if_pos hv]
    obtain ⟨rfl, rfl⟩ := hv
    rw [add_never2 (sRight_iff.1 h1).1]
  · rw [if_neg hv, if_neg h4]
theorem sAfter_no {n d c tn td : Int} (h : ¬ (sRight n d c = true ∧ ¬ isNever n d ∧ rightB tn td = true)) : sAfter n d c tn td = ((0, 0, 0), 1) := by
  unfold sAfter
  rw [if_neg h]
theorem never3 {n d c : Int} (h : sRight n d c = true) : decide (n = 1 ∧ d = 0 ∧ c = 0) = decide (isNever n d) := by
  have := (sRight_iff.1 h).2.2
  by_cases hv : isNever n d
  · rw [decide_eq_true hv, decide_eq_true ⟨hv.1, hv.2, this hv⟩]
  · rw [decide_eq_false hv, decide_eq_false fun k => hv ⟨k.1, k.2.1⟩]

/-- Next's own memory. -/
structure NxI (w : World) (n d c : Int) (wr : World) : Prop where
  below : Below w.heap.size w wr
  st : wr.heap[w.heap.size]? = some (.cells #[.int .i64 n, .int .i64 d, .int .i64 c] 27 (0, 0))
  res : wr.heap[w.heap.size + 1]? = some (.cells #[.int .i64 0, .int .i64 0, .int .i64 0] 27 (0, 0))
theorem NxI.on {w wr W : World} {n d c : Int} (h : NxI w n d c wr) (hb : Below wr.heap.size wr W) : NxI w n d c W := ⟨belowT h.below hb, kbT h.st hb, kbT h.res hb⟩
theorem NxI.start (w : World) (n d c : Int) : NxI w n d c ((w.alloc (.cells #[.int .i64 n, .int .i64 d, .int .i64 c] 27)).alloc (.cells #[.int .i64 0, .int .i64 0, .int .i64 0] 27)) := by
  refine ⟨belowA (belowA (Below.refl _ w) _) _, ?_, ?_⟩
  · rw [Below.heap_alloc _ _ _ (by simp)]
    exact World.alloc_heap_new w _
  · have := World.alloc_heap_new (w.alloc (.cells #[.int .i64 n, .int .i64 d, .int .i64 c] 27)) (.cells #[.int .i64 0, .int .i64 0, .int .i64 0] 27)
    rw [World.size_alloc] at this
    exact this

set_option maxHeartbeats 8000000 in
set_option maxRecDepth 100000 in
theorem pnext_c (n d c : Int) (hs : In3 n d c) (w : World) :
    Calls Tryd.prog 19 #[stV n d c] w fun e w' => e = .returned (afV (sAfter n d c 0 1)) ∧ Below w.heap.size w w' := by
  have mixed : Tryd.prog.follows .mixedOrders = true := by kernel_rfl
  have K1 := Lib.hid (pright_c n d c hs)
  have HO := Lib.hid (NxI.start w n d c)
  obtain ⟨W0, hW0⟩ : ∃ W0, ((w.alloc (.cells #[.int .i64 n, .int .i64 d, .int .i64 c] 27)).alloc (.cells #[.int .i64 0, .int .i64 0, .int .i64 0] 27)) = W0 := ⟨_, rfl⟩
  have HW := Lib.hid hW0
  rw [hW0] at HO
  have HQ := Lib.hid (fun W => eqP n d c 1 0 0 W)
  have hcz := hs.2.2
  have HC := Lib.hid (show sRight n d c = true → c ≤ 1099511627776 ∧ 0 ≤ c from fun h => ⟨(sRight_iff.1 h).2.1.2, (sRight_iff.1 h).2.1.1⟩)
  have HNO := Lib.hid (@sNext_no n d c)
  have HYES := Lib.hid (@sNext_yes n d c)
  obtain ⟨S, hS⟩ : ∃ S, sAfter n d c 0 1 = S := ⟨_, rfl⟩
  rw [hS] at HNO HYES ⊢
  clear hS hs hW0
  obtain ⟨a0, a1, a2⟩ := cells3 HO.out.st (Below.refl _ _)
  rcases Bool.eq_false_or_eq_true (sRight n d c) with r1 | r1
  · rw [r1] at K1
    by_cases v1 : isNever n d
    · have HS := Lib.hid (show S = ((0, 0, 0), 1) from HNO.out fun h => h.2 v1)
      have heq : ∀ W : World, (binOp BinOp.eql 27 (.agg #[.int .i64 n, .int .i64 d, .int .i64 c]) (.agg #[.int .i64 1, .int .i64 0, .int .i64 0])).run Tryd.prog W = .ok (.bool true) W := fun W => by rw [HQ.out, never3 r1, decide_eq_true v1]
      clear v1 r1 HNO HYES HC
      go_enter Tryd.func19, Tryd.ntmps19
      go_wp2_with fail
      rw [HW.out]
      clear HW
      first | go_region_held3 (fun w' => w'.cell? ⟨w.heap.size, 0, none⟩ = some (.int .i64 n) ∧ w'.cell? ⟨w.heap.size, 1, none⟩ = some (.int .i64 d) ∧ w'.cell? ⟨w.heap.size, 2, none⟩ = some (.int .i64 c) ∧ NxI w n d c w')
        (first | (go_split_ands; with_reducible exact ⟨keepc hb (by assumption), keepc hb (by assumption), keepc hb (by assumption), NxI.on (by assumption) hb⟩) | exact ⟨a0, a1, a2, HO.out.on (drewB _)⟩ | go_keep)
        (first
          | (go_at_call 12; refine (K1.out _).mono ?_; rintro e w6 ⟨rfl, hb⟩)
          | (go_at_call 28; refine (pnever_c _).mono ?_; rintro e w6 ⟨rfl, hb⟩)) | fail
      all_goals go_split_ands
      all_goals have HO1 : NxI w n d c w6 := by with_reducible assumption
      all_goals replace HO := Lib.hid HO1
      all_goals (first | clear a0 a1 a2 | skip)
      all_goals
        obtain ⟨a0, a1, a2⟩ := cells3 HO.out.st (Below.refl _ _)
        obtain ⟨z0, z1, z2⟩ := cells3 HO.out.res (Below.refl _ _)
        have f0 := frozen_of_row _ (w.heap.size + 1) 0 _ _ HO.out.res
        have f1 := frozen_of_row _ (w.heap.size + 1) 1 _ _ HO.out.res
        have f2 := frozen_of_row _ (w.heap.size + 1) 2 _ _ HO.out.res
        go_wp2
        rw [HS.out]
        exact bodyPost_ret (v := .tuple #[stV (0) (0) (0), .int .i64 (1)]) (by simp [results, Tryd.results19, go_sem, z0, z1, z2]) rfl ⟨by rfl, (by have WB := HO.out.below; repeat (first | assumption | refine belowS ?_ (by omega) _))⟩
    · have heq : ∀ W : World, (binOp BinOp.eql 27 (.agg #[.int .i64 n, .int .i64 d, .int .i64 c]) (.agg #[.int .i64 1, .int .i64 0, .int .i64 0])).run Tryd.prog W = .ok (.bool false) W := fun W => by rw [HQ.out, never3 r1, decide_eq_false v1]
      by_cases h0 : c = 1099511627776
      · have hz : (c == 1099511627776) = true := by simpa using h0
        have HS := Lib.hid (show S = ((0, 0, 0), 2) from by rw [HYES.out r1 v1, if_pos h0])
        clear v1 r1 HNO HYES HC h0
        go_enter Tryd.func19, Tryd.ntmps19
        go_wp2_with fail
        rw [HW.out]
        clear HW
        first | go_region_held3 (fun w' => w'.cell? ⟨w.heap.size, 0, none⟩ = some (.int .i64 n) ∧ w'.cell? ⟨w.heap.size, 1, none⟩ = some (.int .i64 d) ∧ w'.cell? ⟨w.heap.size, 2, none⟩ = some (.int .i64 c) ∧ NxI w n d c w')
          (first | (go_split_ands; with_reducible exact ⟨keepc hb (by assumption), keepc hb (by assumption), keepc hb (by assumption), NxI.on (by assumption) hb⟩) | exact ⟨a0, a1, a2, HO.out.on (drewB _)⟩ | go_keep)
          (first
            | (go_at_call 12; refine (K1.out _).mono ?_; rintro e w6 ⟨rfl, hb⟩)
            | (go_at_call 28; refine (pnever_c _).mono ?_; rintro e w6 ⟨rfl, hb⟩)) | fail
        all_goals go_split_ands
        all_goals have HO1 : NxI w n d c w6 := by with_reducible assumption
        all_goals replace HO := Lib.hid HO1
        all_goals (first | clear a0 a1 a2 | skip)
        all_goals
          obtain ⟨a0, a1, a2⟩ := cells3 HO.out.st (Below.refl _ _)
          obtain ⟨z0, z1, z2⟩ := cells3 HO.out.res (Below.refl _ _)
          have f0 := frozen_of_row _ (w.heap.size + 1) 0 _ _ HO.out.res
          have f1 := frozen_of_row _ (w.heap.size + 1) 1 _ _ HO.out.res
          have f2 := frozen_of_row _ (w.heap.size + 1) 2 _ _ HO.out.res
          go_wp2
          rw [HS.out]
          exact bodyPost_ret (v := .tuple #[stV (0) (0) (0), .int .i64 (2)]) (by simp [results, Tryd.results19, go_sem, z0, z1, z2]) rfl ⟨by rfl, (by have WB := HO.out.below; repeat (first | assumption | refine belowS ?_ (by omega) _))⟩
      · have hz : (c == 1099511627776) = false := by simpa using h0
        have HS := Lib.hid (show S = ((n, d, c + 1), 0) from by rw [HYES.out r1 v1, if_neg h0])
        have hw : IntKind.i64.wrap (c + 1) = c + 1 := by have := HC.out r1; rw [IntKind.wrap_i64]; omega
        clear v1 r1 HNO HYES HC h0
        go_enter Tryd.func19, Tryd.ntmps19
        go_wp2_with fail
        rw [HW.out]
        clear HW
        first | go_region_held3 (fun w' => w'.cell? ⟨w.heap.size, 0, none⟩ = some (.int .i64 n) ∧ w'.cell? ⟨w.heap.size, 1, none⟩ = some (.int .i64 d) ∧ w'.cell? ⟨w.heap.size, 2, none⟩ = some (.int .i64 c) ∧ NxI w n d c w')
          (first | (go_split_ands; with_reducible exact ⟨keepc hb (by assumption), keepc hb (by assumption), keepc hb (by assumption), NxI.on (by assumption) hb⟩) | exact ⟨a0, a1, a2, HO.out.on (drewB _)⟩ | go_keep)
          (first
            | (go_at_call 12; refine (K1.out _).mono ?_; rintro e w6 ⟨rfl, hb⟩)
            | (go_at_call 28; refine (pnever_c _).mono ?_; rintro e w6 ⟨rfl, hb⟩)) | fail
        all_goals go_split_ands
        all_goals have HO1 : NxI w n d c w6 := by with_reducible assumption
        all_goals replace HO := Lib.hid HO1
        all_goals (first | clear a0 a1 a2 | skip)
        all_goals
          obtain ⟨a0, a1, a2⟩ := cells3 HO.out.st (Below.refl _ _)
          obtain ⟨z0, z1, z2⟩ := cells3 HO.out.res (Below.refl _ _)
          have f0 := frozen_of_row _ (w.heap.size + 1) 0 _ _ HO.out.res
          have f1 := frozen_of_row _ (w.heap.size + 1) 1 _ _ HO.out.res
          have f2 := frozen_of_row _ (w.heap.size + 1) 2 _ _ HO.out.res
          go_wp2
          rw [HS.out]
          exact bodyPost_ret (v := .tuple #[stV (n) (d) (c + 1), .int .i64 (0)]) (by simp [results, Tryd.results19, go_sem, z0, z1, z2]) rfl ⟨by rfl, (by have WB := HO.out.below; repeat (first | assumption | refine belowS ?_ (by omega) _))⟩
  · rw [r1] at K1
    have HS := Lib.hid (show S = ((0, 0, 0), 1) from HNO.out fun h => by rw [r1] at h; exact absurd h.1 (by decide))
    clear r1 HNO HYES HC
    go_enter Tryd.func19, Tryd.ntmps19
    go_wp2_with fail
    rw [HW.out]
    clear HW
    first | go_region_with (first | (go_at_call 12; refine (K1.out _).mono ?_; rintro e w6 ⟨rfl, hb⟩; replace HO := Lib.hid (HO.out.on (belowT (by repeat (first | with_reducible exact Below.refl _ _ | with_reducible refine Below.drew ?_ | with_reducible refine belowN ?_ _)) hb)); clear hb; (first | clear a0 a1 a2 | skip); obtain ⟨a0, a1, a2⟩ := cells3 HO.out.st (Below.refl _ _)) | (go_at_call 28; refine (pnever_c _).mono ?_; rintro e w6 ⟨rfl, hb⟩; replace HO := Lib.hid (HO.out.on (belowT (by repeat (first | with_reducible exact Below.refl _ _ | with_reducible refine Below.drew ?_ | with_reducible refine belowN ?_ _)) hb)); clear hb; (first | clear a0 a1 a2 | skip); obtain ⟨a0, a1, a2⟩ := cells3 HO.out.st (Below.refl _ _))) | fail
    all_goals (first | clear a0 a1 a2 | skip)
    all_goals
      obtain ⟨a0, a1, a2⟩ := cells3 HO.out.st (Below.refl _ _)
      obtain ⟨z0, z1, z2⟩ := cells3 HO.out.res (Below.refl _ _)
      have f0 := frozen_of_row _ (w.heap.size + 1) 0 _ _ HO.out.res
      have f1 := frozen_of_row _ (w.heap.size + 1) 1 _ _ HO.out.res
      have f2 := frozen_of_row _ (w.heap.size + 1) 2 _ _ HO.out.res
      go_wp2
      rw [HS.out]
      exact bodyPost_ret (v := .tuple #[stV (0) (0) (0), .int .i64 (1)]) (by simp [results, Tryd.results19, go_sem, z0, z1, z2]) rfl ⟨by rfl, (by have WB := HO.out.below; repeat (first | assumption | refine belowS ?_ (by omega) _))⟩

/-- After's own memory. -/
structure AfP (w : World) (n d c tn td : Int) (wr : World) : Prop where
  below : Below w.heap.size w wr
  st : wr.heap[w.heap.size]? = some (.cells #[.int .i64 n, .int .i64 d, .int .i64 c] 27 (0, 0))
  tm : wr.heap[w.heap.size + 1]? = some (.cells #[.int .i64 tn, .int .i64 td] 23 (0, 0))
  res : wr.heap[w.heap.size + 1 + 1]? = some (.cells #[.int .i64 0, .int .i64 0, .int .i64 0] 27 (0, 0))
theorem AfP.on {w wr W : World} {n d c tn td : Int} (h : AfP w n d c tn td wr) (hb : Below wr.heap.size wr W) : AfP w n d c tn td W := ⟨belowT h.below hb, kbT h.st hb, kbT h.tm hb, kbT h.res hb⟩
theorem AfP.start (w : World) (n d c tn td : Int) : AfP w n d c tn td (((w.alloc (.cells #[.int .i64 n, .int .i64 d, .int .i64 c] 27)).alloc (.cells #[.int .i64 tn, .int .i64 td] 23)).alloc (.cells #[.int .i64 0, .int .i64 0, .int .i64 0] 27)) := by
  refine ⟨belowA (belowA (belowA (Below.refl _ w) _) _) _, ?_, ?_, ?_⟩
  · rw [Below.heap_alloc _ _ _ (by simp; omega), Below.heap_alloc _ _ _ (by simp)]
    exact World.alloc_heap_new w _
  · rw [Below.heap_alloc _ _ _ (by simp)]
    have := World.alloc_heap_new (w.alloc (.cells #[.int .i64 n, .int .i64 d, .int .i64 c] 27)) (.cells #[.int .i64 tn, .int .i64 td] 23)
    rw [World.size_alloc] at this
    exact this
  · have := World.alloc_heap_new ((w.alloc (.cells #[.int .i64 n, .int .i64 d, .int .i64 c] 27)).alloc (.cells #[.int .i64 tn, .int .i64 td] 23)) (.cells #[.int .i64 0, .int .i64 0, .int .i64 0] 27)
    rw [World.size_alloc, World.size_alloc] at this
    exact this

set_option maxHeartbeats 8000000 in
set_option maxRecDepth 100000 in
theorem pafter_c (n d c tn td : Int) (hs : In3 n d c) (ht : In64 tn ∧ In64 td) (w : World) :
    Calls Tryd.prog 13 #[stV n d c, .agg #[.int .i64 tn, .int .i64 td]] w fun e w' => e = .returned (afV (sAfter n d c tn td)) ∧ Below w.heap.size w w' := by
  have mixed : Tryd.prog.follows .mixedOrders = true := by kernel_rfl
  have K1 := Lib.hid (pright_c n d c hs)
  have K2 := Lib.hid (right_c tn td ht.1 ht.2)
  have K3 := pnext_c n d c hs
  have K4 := add_c n d tn td ⟨hs.1, hs.2.1⟩ ht
  have HNO := Lib.hid (@sAfter_no n d c tn td)
  have HSUM := Lib.hid (@sAfter_sum n d c tn td)
  have HNX := Lib.hid (@sAfter_nought n d c td)
  obtain ⟨⟨x, y, z⟩, hA⟩ : ∃ a, addS n d tn td = a := ⟨_, rfl⟩
  rw [hA] at K4 HSUM
  obtain ⟨⟨⟨n1, n2, n3⟩, n4⟩, hN⟩ : ∃ a, sAfter n d c 0 1 = a := ⟨_, rfl⟩
  rw [hN] at K3 HNX
  dsimp only [afV, stV, timeV] at K3 K4
  replace K3 := Lib.hid K3
  replace K4 := Lib.hid K4
  have HO := Lib.hid (AfP.start w n d c tn td)
  obtain ⟨W0, hW0⟩ : ∃ W0, (((w.alloc (.cells #[.int .i64 n, .int .i64 d, .int .i64 c] 27)).alloc (.cells #[.int .i64 tn, .int .i64 td] 23)).alloc (.cells #[.int .i64 0, .int .i64 0, .int .i64 0] 27)) = W0 := ⟨_, rfl⟩
  have HW := Lib.hid hW0
  rw [hW0] at HO
  have HQ := Lib.hid (fun W => eqP n d c 1 0 0 W)
  clear hs ht hA hN hW0
  obtain ⟨a0, a1, a2⟩ := cells3 HO.out.st (Below.refl _ _)
  obtain ⟨t0, t1⟩ := cells2 HO.out.tm
  have HNY := Lib.hid (show tn = 0 → rightB tn td = true → sAfter n d c tn td = ((n1, n2, n3), n4) from fun h0 h => by subst h0; exact HNX.out h)
  clear HNX
  have HNX := HNY
  clear HNY
  obtain ⟨S, hS⟩ : ∃ S, sAfter n d c tn td = S := ⟨_, rfl⟩
  rw [hS] at HNO HSUM HNX ⊢
  clear hS
  rcases Bool.eq_false_or_eq_true (sRight n d c) with r1 | r1
  · rw [r1] at K1
    by_cases v1 : isNever n d
    · have HS := Lib.hid (show S = ((0, 0, 0), 1) from HNO.out fun h => h.2.1 v1)
      have heq : ∀ W : World, (binOp BinOp.eql 27 (.agg #[.int .i64 n, .int .i64 d, .int .i64 c]) (.agg #[.int .i64 1, .int .i64 0, .int .i64 0])).run Tryd.prog W = .ok (.bool true) W := fun W => by rw [HQ.out, never3 r1, decide_eq_true v1]
      clear v1 r1
      clear HNO HSUM HNX
      go_enter Tryd.func13, Tryd.ntmps13
      go_wp2_with fail
      rw [HW.out]
      clear HW
      first | go_region_with (first | (go_at_call 12; refine (K1.out _).mono ?_; rintro e w6 ⟨rfl, hb⟩; replace HO := Lib.hid (HO.out.on (belowT (by repeat (first | with_reducible exact Below.refl _ _ | with_reducible refine Below.drew ?_ | with_reducible refine belowN ?_ _)) hb)); clear hb; (first | clear a0 a1 a2 t0 t1 | skip); obtain ⟨a0, a1, a2⟩ := cells3 HO.out.st (Below.refl _ _); obtain ⟨t0, t1⟩ := cells2 HO.out.tm) | (go_at_call 28; refine (pnever_c _).mono ?_; rintro e w6 ⟨rfl, hb⟩; replace HO := Lib.hid (HO.out.on (belowT (by repeat (first | with_reducible exact Below.refl _ _ | with_reducible refine Below.drew ?_ | with_reducible refine belowN ?_ _)) hb)); clear hb; (first | clear a0 a1 a2 t0 t1 | skip); obtain ⟨a0, a1, a2⟩ := cells3 HO.out.st (Below.refl _ _); obtain ⟨t0, t1⟩ := cells2 HO.out.tm) | (go_at_call 29; refine (K2.out _).mono ?_; rintro e w6 ⟨rfl, hb⟩; replace HO := Lib.hid (HO.out.on (belowT (by repeat (first | with_reducible exact Below.refl _ _ | with_reducible refine Below.drew ?_ | with_reducible refine belowN ?_ _)) hb)); clear hb; (first | clear a0 a1 a2 t0 t1 | skip); obtain ⟨a0, a1, a2⟩ := cells3 HO.out.st (Below.refl _ _); obtain ⟨t0, t1⟩ := cells2 HO.out.tm)) | fail
      all_goals (first | clear a0 a1 a2 t0 t1 | skip)
      all_goals
        obtain ⟨a0, a1, a2⟩ := cells3 HO.out.st (Below.refl _ _)
        obtain ⟨t0, t1⟩ := cells2 HO.out.tm
        obtain ⟨z0, z1, z2⟩ := cells3 HO.out.res (Below.refl _ _)
        have f0 := frozen_of_row _ (w.heap.size + 1 + 1) 0 _ _ HO.out.res
        have f1 := frozen_of_row _ (w.heap.size + 1 + 1) 1 _ _ HO.out.res
        have f2 := frozen_of_row _ (w.heap.size + 1 + 1) 2 _ _ HO.out.res
        go_wp2
        rw [HS.out]
        exact bodyPost_ret (v := .tuple #[stV (0) (0) (0), .int .i64 (1)]) (by simp [results, Tryd.results13, go_sem, z0, z1, z2]) rfl ⟨by rfl, (by have WB := HO.out.below; repeat (first | assumption | refine belowS ?_ (by omega) _))⟩
    · have heq : ∀ W : World, (binOp BinOp.eql 27 (.agg #[.int .i64 n, .int .i64 d, .int .i64 c]) (.agg #[.int .i64 1, .int .i64 0, .int .i64 0])).run Tryd.prog W = .ok (.bool false) W := fun W => by rw [HQ.out, never3 r1, decide_eq_false v1]
      rcases Bool.eq_false_or_eq_true (rightB tn td) with r2 | r2
      · rw [r2] at K2
        by_cases h0 : tn = 0
        · subst h0
          have HS := Lib.hid (show S = ((n1, n2, n3), n4) from HNX.out rfl r2)
          clear v1 r1 r2
          clear HNO HSUM HNX
          go_enter Tryd.func13, Tryd.ntmps13
          go_wp2_with fail
          rw [HW.out]
          clear HW
          first | go_region_held3 (fun w' => w'.cell? ⟨w.heap.size, 0, none⟩ = some (.int .i64 n) ∧ w'.cell? ⟨w.heap.size, 1, none⟩ = some (.int .i64 d) ∧ w'.cell? ⟨w.heap.size, 2, none⟩ = some (.int .i64 c) ∧ w'.cell? ⟨w.heap.size + 1, 0, none⟩ = some (.int .i64 0) ∧ w'.cell? ⟨w.heap.size + 1, 1, none⟩ = some (.int .i64 td) ∧ AfP w n d c 0 td w')
            (first | (go_split_ands; with_reducible exact ⟨keepc hb (by assumption), keepc hb (by assumption), keepc hb (by assumption), keepc hb (by assumption), keepc hb (by assumption), AfP.on (by assumption) hb⟩) | exact ⟨a0, a1, a2, t0, t1, HO.out.on (drewB _)⟩ | go_keep)
            (first
              | (go_at_call 12; refine (K1.out _).mono ?_; rintro e w6 ⟨rfl, hb⟩)
              | (go_at_call 28; refine (pnever_c _).mono ?_; rintro e w6 ⟨rfl, hb⟩)
              | (go_at_call 29; refine (K2.out _).mono ?_; rintro e w6 ⟨rfl, hb⟩)) | fail
          all_goals go_split_ands
          all_goals have HO1 : AfP w n d c 0 td w6 := by with_reducible assumption
          all_goals replace HO := Lib.hid HO1
          all_goals (first | clear a0 a1 a2 t0 t1 | skip)
          all_goals
            obtain ⟨a0, a1, a2⟩ := cells3 HO.out.st (Below.refl _ _)
            obtain ⟨t0, t1⟩ := cells2 HO.out.tm
            obtain ⟨z0, z1, z2⟩ := cells3 HO.out.res (Below.refl _ _)
            have f0 := frozen_of_row _ (w.heap.size + 1 + 1) 0 _ _ HO.out.res
            have f1 := frozen_of_row _ (w.heap.size + 1 + 1) 1 _ _ HO.out.res
            have f2 := frozen_of_row _ (w.heap.size + 1 + 1) 2 _ _ HO.out.res
            go_wp2_with fail
            clear a0 a1 a2 t0 t1 z0 z1 z2 f0 f1 f2
            refine (K3.out _).mono ?_
            rintro e wa ⟨rfl, hb⟩
            replace HO := Lib.hid (HO.out.on hb)
            clear hb
            obtain ⟨a0, a1, a2⟩ := cells3 HO.out.st (Below.refl _ _)
            obtain ⟨t0, t1⟩ := cells2 HO.out.tm
            obtain ⟨z0, z1, z2⟩ := cells3 HO.out.res (Below.refl _ _)
            have f0 := frozen_of_row _ (w.heap.size + 1 + 1) 0 _ _ HO.out.res
            have f1 := frozen_of_row _ (w.heap.size + 1 + 1) 1 _ _ HO.out.res
            have f2 := frozen_of_row _ (w.heap.size + 1 + 1) 2 _ _ HO.out.res
            go_wp2
            rw [HS.out]
            exact bodyPost_ret (v := .tuple #[stV (n1) (n2) (n3), .int .i64 (n4)]) (by simp [results, Tryd.results13, go_sem, z0, z1, z2]) rfl ⟨by rfl, (by have WB := HO.out.below; repeat (first | assumption | refine belowS ?_ (by omega) _))⟩
        · have hz : (tn == 0) = false := by simpa using h0
          have HS := Lib.hid (show S = ((x, y, 0), z) from HSUM.out r1 v1 r2 h0)
          clear v1 r1 r2 h0
          clear HNO HSUM HNX
          go_enter Tryd.func13, Tryd.ntmps13
          go_wp2_with fail
          rw [HW.out]
          clear HW
          first | go_region_held3 (fun w' => w'.cell? ⟨w.heap.size, 0, none⟩ = some (.int .i64 n) ∧ w'.cell? ⟨w.heap.size, 1, none⟩ = some (.int .i64 d) ∧ w'.cell? ⟨w.heap.size, 2, none⟩ = some (.int .i64 c) ∧ w'.cell? ⟨w.heap.size + 1, 0, none⟩ = some (.int .i64 tn) ∧ w'.cell? ⟨w.heap.size + 1, 1, none⟩ = some (.int .i64 td) ∧ AfP w n d c tn td w')
            (first | (go_split_ands; with_reducible exact ⟨keepc hb (by assumption), keepc hb (by assumption), keepc hb (by assumption), keepc hb (by assumption), keepc hb (by assumption), AfP.on (by assumption) hb⟩) | exact ⟨a0, a1, a2, t0, t1, HO.out.on (drewB _)⟩ | go_keep)
            (first
              | (go_at_call 12; refine (K1.out _).mono ?_; rintro e w6 ⟨rfl, hb⟩)
              | (go_at_call 28; refine (pnever_c _).mono ?_; rintro e w6 ⟨rfl, hb⟩)
              | (go_at_call 29; refine (K2.out _).mono ?_; rintro e w6 ⟨rfl, hb⟩)) | fail
          all_goals go_split_ands
          all_goals have HO1 : AfP w n d c tn td w6 := by with_reducible assumption
          all_goals replace HO := Lib.hid HO1
          all_goals (first | clear a0 a1 a2 t0 t1 | skip)
          all_goals
            obtain ⟨a0, a1, a2⟩ := cells3 HO.out.st (Below.refl _ _)
            obtain ⟨t0, t1⟩ := cells2 HO.out.tm
            obtain ⟨z0, z1, z2⟩ := cells3 HO.out.res (Below.refl _ _)
            have f0 := frozen_of_row _ (w.heap.size + 1 + 1) 0 _ _ HO.out.res
            have f1 := frozen_of_row _ (w.heap.size + 1 + 1) 1 _ _ HO.out.res
            have f2 := frozen_of_row _ (w.heap.size + 1 + 1) 2 _ _ HO.out.res
            go_wp2_with fail
            clear a0 a1 a2 t0 t1 z0 z1 z2 f0 f1 f2
            refine (K4.out _).mono ?_
            rintro e wa ⟨rfl, hb⟩
            replace HO := Lib.hid (HO.out.on hb)
            clear hb
            obtain ⟨a0, a1, a2⟩ := cells3 HO.out.st (Below.refl _ _)
            obtain ⟨t0, t1⟩ := cells2 HO.out.tm
            obtain ⟨z0, z1, z2⟩ := cells3 HO.out.res (Below.refl _ _)
            have f0 := frozen_of_row _ (w.heap.size + 1 + 1) 0 _ _ HO.out.res
            have f1 := frozen_of_row _ (w.heap.size + 1 + 1) 1 _ _ HO.out.res
            have f2 := frozen_of_row _ (w.heap.size + 1 + 1) 2 _ _ HO.out.res
            clear a0 a1 a2 t0 t1 z0 z1 z2 f0 f1 f2
            replace HO := Lib.hid (HO.out.on (belowA (Below.refl _ wa) (.cells #[.int .i64 x, .int .i64 y] 23)))
            obtain ⟨a0, a1, a2⟩ := cells3 HO.out.st (Below.refl _ _)
            obtain ⟨t0, t1⟩ := cells2 HO.out.tm
            obtain ⟨z0, z1, z2⟩ := cells3 HO.out.res (Below.refl _ _)
            have f0 := frozen_of_row _ (w.heap.size + 1 + 1) 0 _ _ HO.out.res
            have f1 := frozen_of_row _ (w.heap.size + 1 + 1) 1 _ _ HO.out.res
            have f2 := frozen_of_row _ (w.heap.size + 1 + 1) 2 _ _ HO.out.res
            go_wp2
            rw [HS.out]
            exact bodyPost_ret (v := .tuple #[stV (x) (y) (0), .int .i64 (z)]) (by simp [results, Tryd.results13, go_sem, z0, z1, z2]) rfl ⟨by rfl, (by have WB := HO.out.below; repeat (first | assumption | refine belowS ?_ (by omega) _))⟩
      · rw [r2] at K2
        have HS := Lib.hid (show S = ((0, 0, 0), 1) from HNO.out fun h => by rw [r2] at h; exact absurd h.2.2 (by decide))
        clear v1 r1 r2
        clear HNO HSUM HNX
        go_enter Tryd.func13, Tryd.ntmps13
        go_wp2_with fail
        rw [HW.out]
        clear HW
        first | go_region_held3 (fun w' => w'.cell? ⟨w.heap.size, 0, none⟩ = some (.int .i64 n) ∧ w'.cell? ⟨w.heap.size, 1, none⟩ = some (.int .i64 d) ∧ w'.cell? ⟨w.heap.size, 2, none⟩ = some (.int .i64 c) ∧ w'.cell? ⟨w.heap.size + 1, 0, none⟩ = some (.int .i64 tn) ∧ w'.cell? ⟨w.heap.size + 1, 1, none⟩ = some (.int .i64 td) ∧ AfP w n d c tn td w')
          (first | (go_split_ands; with_reducible exact ⟨keepc hb (by assumption), keepc hb (by assumption), keepc hb (by assumption), keepc hb (by assumption), keepc hb (by assumption), AfP.on (by assumption) hb⟩) | exact ⟨a0, a1, a2, t0, t1, HO.out.on (drewB _)⟩ | go_keep)
          (first
            | (go_at_call 12; refine (K1.out _).mono ?_; rintro e w6 ⟨rfl, hb⟩)
            | (go_at_call 28; refine (pnever_c _).mono ?_; rintro e w6 ⟨rfl, hb⟩)
            | (go_at_call 29; refine (K2.out _).mono ?_; rintro e w6 ⟨rfl, hb⟩)) | fail
        all_goals go_split_ands
        all_goals have HO1 : AfP w n d c tn td w6 := by with_reducible assumption
        all_goals replace HO := Lib.hid HO1
        all_goals (first | clear a0 a1 a2 t0 t1 | skip)
        all_goals
          obtain ⟨a0, a1, a2⟩ := cells3 HO.out.st (Below.refl _ _)
          obtain ⟨t0, t1⟩ := cells2 HO.out.tm
          obtain ⟨z0, z1, z2⟩ := cells3 HO.out.res (Below.refl _ _)
          have f0 := frozen_of_row _ (w.heap.size + 1 + 1) 0 _ _ HO.out.res
          have f1 := frozen_of_row _ (w.heap.size + 1 + 1) 1 _ _ HO.out.res
          have f2 := frozen_of_row _ (w.heap.size + 1 + 1) 2 _ _ HO.out.res
          go_wp2
          rw [HS.out]
          exact bodyPost_ret (v := .tuple #[stV (0) (0) (0), .int .i64 (1)]) (by simp [results, Tryd.results13, go_sem, z0, z1, z2]) rfl ⟨by rfl, (by have WB := HO.out.below; repeat (first | assumption | refine belowS ?_ (by omega) _))⟩
  · rw [r1] at K1
    have HS := Lib.hid (show S = ((0, 0, 0), 1) from HNO.out fun h => by rw [r1] at h; exact absurd h.1 (by decide))
    clear r1
    clear HNO HSUM HNX
    go_enter Tryd.func13, Tryd.ntmps13
    go_wp2_with fail
    rw [HW.out]
    clear HW
    first | go_region_with (first | (go_at_call 12; refine (K1.out _).mono ?_; rintro e w6 ⟨rfl, hb⟩; replace HO := Lib.hid (HO.out.on (belowT (by repeat (first | with_reducible exact Below.refl _ _ | with_reducible refine Below.drew ?_ | with_reducible refine belowN ?_ _)) hb)); clear hb; (first | clear a0 a1 a2 t0 t1 | skip); obtain ⟨a0, a1, a2⟩ := cells3 HO.out.st (Below.refl _ _); obtain ⟨t0, t1⟩ := cells2 HO.out.tm) | (go_at_call 28; refine (pnever_c _).mono ?_; rintro e w6 ⟨rfl, hb⟩; replace HO := Lib.hid (HO.out.on (belowT (by repeat (first | with_reducible exact Below.refl _ _ | with_reducible refine Below.drew ?_ | with_reducible refine belowN ?_ _)) hb)); clear hb; (first | clear a0 a1 a2 t0 t1 | skip); obtain ⟨a0, a1, a2⟩ := cells3 HO.out.st (Below.refl _ _); obtain ⟨t0, t1⟩ := cells2 HO.out.tm) | (go_at_call 29; refine (K2.out _).mono ?_; rintro e w6 ⟨rfl, hb⟩; replace HO := Lib.hid (HO.out.on (belowT (by repeat (first | with_reducible exact Below.refl _ _ | with_reducible refine Below.drew ?_ | with_reducible refine belowN ?_ _)) hb)); clear hb; (first | clear a0 a1 a2 t0 t1 | skip); obtain ⟨a0, a1, a2⟩ := cells3 HO.out.st (Below.refl _ _); obtain ⟨t0, t1⟩ := cells2 HO.out.tm)) | fail
    all_goals (first | clear a0 a1 a2 t0 t1 | skip)
    all_goals
      obtain ⟨a0, a1, a2⟩ := cells3 HO.out.st (Below.refl _ _)
      obtain ⟨t0, t1⟩ := cells2 HO.out.tm
      obtain ⟨z0, z1, z2⟩ := cells3 HO.out.res (Below.refl _ _)
      have f0 := frozen_of_row _ (w.heap.size + 1 + 1) 0 _ _ HO.out.res
      have f1 := frozen_of_row _ (w.heap.size + 1 + 1) 1 _ _ HO.out.res
      have f2 := frozen_of_row _ (w.heap.size + 1 + 1) 2 _ _ HO.out.res
      go_wp2
      rw [HS.out]
      exact bodyPost_ret (v := .tuple #[stV (0) (0) (0), .int .i64 (1)]) (by simp [results, Tryd.results13, go_sem, z0, z1, z2]) rfl ⟨by rfl, (by have WB := HO.out.below; repeat (first | assumption | refine belowS ?_ (by omega) _))⟩
end Go.Proofs.YtmkclkppolfpnaaDoor
