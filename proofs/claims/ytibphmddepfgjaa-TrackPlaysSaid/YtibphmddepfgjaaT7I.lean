/-
  track's Set and At over this seat's translation. Conditions: those that each theorem states.
-/
import Derived.Test.YtibphmddepfgjaaT7H
namespace Go.Proofs.Ytibphmddepfgjaa.Tr
open Go.RowKit Go.Shelf Go.Lib Go.Sort

/-- Where an entry of just that stamp stands, if there is one. -/
theorem lev_at {L : List En} {s : Sp} (h : Rise L) (hs : s.R = true) : (setB L s = true ↔ nb L s < L.length ∧ (gE L (nb L s)).1 = s) ∧ (∀ x : Int, setB L s = true → setL L s x = L.set (nb L s) ((gE L (nb L s)).1, x)) := by
  have h1 := less_split h hs
  have h2 := (h.parts hs).2
  have hl : L.length = nb L s + ((levL L s).length + (moreL L s).length) := by
    have := congrArg List.length h1
    rw [List.length_append, List.length_append] at this
    exact this
  cases hlev : levL L s with
  | nil =>
    have hB : setB L s = false := by unfold setB; rw [hlev]; simp
    rw [hlev] at h1
    refine ⟨⟨fun e => (by rw [hB] at e; cases e), fun ⟨h3, h4⟩ => ?_⟩, fun x e => (by rw [hB] at e; cases e)⟩
    exfalso
    have hm := (gE_mem (A := lessL L s) (B := [] ++ moreL L s) h1 (nb L s)).2 (Nat.le_refl _) h3
    rw [List.nil_append] at hm
    have h5 : 0 < cmp (gE L (nb L s)).1 s := by simpa using (List.mem_filter.1 hm).2
    rw [h4, (cmp_eq hs hs).2 rfl] at h5
    omega
  | cons a l =>
    have hB : setB L s = true := by unfold setB; rw [hlev, hs]; rfl
    have hll : l = [] := by rw [hlev] at h2; simpa using h2
    subst hll
    rw [hlev] at h1 hl
    have has : a.1 = s := levL_eq hs h a (by rw [hlev]; exact List.mem_cons_self ..)
    have hg : gE L (nb L s) = a := by
      have h3 : L[nb L s]? = some a := by
        obtain ⟨A, hA⟩ : ∃ A, lessL L s = A := ⟨_, rfl⟩
        obtain ⟨B, hBB⟩ : ∃ B, moreL L s = B := ⟨_, rfl⟩
        have hn : nb L s = A.length := by unfold nb; rw [hA]
        rw [hA, hBB] at h1
        rw [hn, h1, List.getElem?_append_right (Nat.le_refl _), Nat.sub_self]
        rfl
      have h4 := gE_get (L := L) (k := nb L s) (by simp at hl; omega)
      rw [h3] at h4
      exact (Option.some.inj h4).symm
    refine ⟨⟨fun _ => ⟨by simp at hl; omega, by rw [hg]; exact has⟩, fun _ => hB⟩, fun x _ => ?_⟩
    unfold setL
    rw [if_pos hB, hg, has]
    have h5 : L.set (nb L s) (s, x) = (lessL L s ++ ([a] ++ moreL L s)).set (lessL L s).length (s, x) := by
      rw [← h1]
      rfl
    rw [h5]
    simp
theorem rbool6 {a b : Bool} (h : b = a) : Ending.returned (.bool a) = .returned (.bool b) := by rw [h]
theorem neP (an ad ac bn bd bc : Int) (w : World) : (binOp BinOp.neq 33 (.agg #[.int .i64 an, .int .i64 ad, .int .i64 ac]) (.agg #[.int .i64 bn, .int .i64 bd, .int .i64 bc])).run Try.prog w = .ok (.bool (!decide (an = bn ∧ ad = bd ∧ ac = bc))) w := by
  by_cases h1 : an = bn
  · by_cases h2 : ad = bd
    · by_cases h3 : ac = bc
      · subst h1 h2 h3
        go_simp
      · subst h1 h2
        go_simp
    · subst h1
      go_simp
  · go_simp
theorem ne_sp {s t : Sp} : (!decide (s.1 = t.1 ∧ s.2.1 = t.2.1 ∧ s.2.2 = t.2.2)) = !decide (s = t) := by
  obtain ⟨a, b, c⟩ := s
  obtain ⟨d, e, f⟩ := t
  simp

set_option maxHeartbeats 16000000 in
set_option maxRecDepth 100000 in
theorem setT_c {W : World} {b k : Nat} {L : List En} {G : Option Nat} {v : Value} (h : TkS W b k L G v) (s : Sp) (x : Int) (hs : s.I) (hx : In64 x) :
    Calls Try.prog 19 #[.pointer (some ⟨b, 0, none⟩), s.v, .int .i64 x] W fun e w' => e = .returned (.bool (setB L s)) ∧ PutS W b k (setL L s x) G w' := by
  have mixed : Try.prog.follows .mixedOrders = true := by kernel_rfl
  obtain ⟨W1, hW1⟩ : ∃ W1, W.alloc (.cells #[.int .i64 s.1, .int .i64 s.2.1, .int .i64 s.2.2] 33) = W1 := ⟨_, rfl⟩
  have hb1 : Below W.heap.size W W1 := hW1 ▸ bA' (Below.refl _ _) (Nat.le_refl _) _
  have hbx : W1.heap[W.heap.size]? = some (.cells #[.int .i64 s.1, .int .i64 s.2.1, .int .i64 s.2.2] 33 (0, 0)) := hW1 ▸ World.alloc_heap_new W _
  have KM := Lib.hid (may_c (some ⟨b, 0, none⟩) s hs)
  have HO := Lib.hid (And.intro hb1 hbx)
  have HW := Lib.hid hW1
  have HH := Lib.hid (And.intro h (And.intro hs hx))
  obtain ⟨x0, x1, x2⟩ := cells3 hbx (Below.refl _ _)
  by_cases hr : s.R = true
  · have KM2 := KM.out
    rw [show ((some (⟨b, 0, none⟩ : Addr)).isSome && s.R) = true from by rw [hr]; rfl] at KM2
    replace KM := Lib.hid KM2
    have KB := Lib.hid (fun W' (hb : Below W.heap.size W W') => below_c (h.below hb) s hs hr)
    have hlev := lev_at h.rise hr
    have hle := nb_le h.rise hr
    have hroom := h.room
    obtain ⟨n, hn⟩ : ∃ n, nb L s = n := ⟨_, rfl⟩
    rw [hn] at hlev hle KB
    have HLV := Lib.hid hlev
    clear KM2 hb1 hbx hW1 h hs hx hr hlev hn
    go_enter Try.func19, Try.ntmps19
    go_wp2_with fail
    rw [HW.out]
    clear HW
    refine (KM.out _).mono ?_
    rintro e w2 ⟨rfl, hb2⟩
    have HB2 := Lib.hid (bT' HO.out.1 hb2 HO.out.1.size)
    obtain ⟨x0, x1, x2⟩ := cells3 HO.out.2 hb2
    have HX2 := Lib.hid (kbE HO.out.2 hb2)
    clear hb2
    go_wp2_with fail
    refine (KB.out _ HB2.out).mono ?_
    rintro e w3 ⟨rfl, hb3⟩
    have HB3 := Lib.hid (bT' HB2.out hb3 HB2.out.size)
    have h3 := HH.out.1.below HB3.out
    obtain ⟨x0, x1, x2⟩ := cells3 HX2.out hb3
    clear hb3
    by_cases hl : n < L.length
    · obtain ⟨g, off, cap, hve, eG, e0, e1, e2, _⟩ := entAt h3.ents hl
      have c0 : w3.cell? ⟨b, 0, none⟩ = some (.slice (some ⟨g, off, none⟩) L.length cap) := by rw [← hve]; exact (cell_two h3.box).1
      have hnl : decide ((n : Int) = (L.length : Int)) = false := decide_eq_false (by omega)
      have hnl2 : ((n : Int) == (L.length : Int)) = false := by rw [beq_eq_false_iff_ne]; omega
      have hnl3 : decide (n = L.length) = false := decide_eq_false (by omega)
      have hn0 : (0 : Int) ≤ (n : Int) := by omega
      have hnz : (n : Int) < (L.length : Int) := by omega
      obtain ⟨t, ht⟩ : ∃ t, (gE L n).1 = t := ⟨_, rfl⟩
      rw [ht] at e0 e1 e2
      have hne := fun W => neP t.1 t.2.1 t.2.2 s.1 s.2.1 s.2.2 W
      by_cases hts : t = s
      · have hne2 : ∀ W : World, (binOp BinOp.neq 33 (.agg #[.int .i64 t.1, .int .i64 t.2.1, .int .i64 t.2.2]) (.agg #[.int .i64 s.1, .int .i64 s.2.1, .int .i64 s.2.2])).run Try.prog W = .ok (.bool false) W := fun W => by rw [hne, ne_sp, decide_eq_true hts]; rfl
        have hB : setB L s = true := HLV.out.1.2 ⟨hl, ht.trans hts⟩
        have HBB := Lib.hid (And.intro hB (HLV.out.2 x hB))
        clear hB hne hts
        go_wp2_with fail
        go_quiet (fail)
        obtain ⟨V, hV⟩ : ∃ V, w3.drewN nq = V := ⟨_, rfl⟩
        rw [hV]
        have hbV : Below w3.heap.size w3 V := hV ▸ belowN (Below.refl _ _) _
        have hB4 := bT' HB3.out hbV HB3.out.size
        have h4 := HH.out.1.below hB4
        have hbx4 := h4.box
        rw [show v = .slice (some ⟨g, off, none⟩) L.length cap from hve] at hbx4
        obtain ⟨d0, d1, _⟩ := cell_two hbx4
        have hex : ∃ cur, V.heap[g]? = some (.cells cur 71 (0, 0)) ∧ cur.size = off + cap * 4 ∧ (∀ (j : Nat) (u : Value), (L.flatMap cE)[j]? = some u → cur[off + j]? = some u) ∧ L.length ≤ cap := by
          rcases h4.ents with ⟨p, q1, q2, q3⟩ | ⟨g', off', cap', cur, q1, q2, q3, q4, q5, q6, q7⟩
          · rw [eG] at q3; cases q3
          · have q8 : some g = some g' := eG.symm.trans q2
            have q9 := hve.symm.trans q1
            simp at q9
            obtain ⟨⟨rfl, rfl⟩, rfl⟩ := q9
            exact ⟨cur, q5, q6, q7, q4⟩
        obtain ⟨cur, q1, q2, q3, q4⟩ := hex
        have hgb : g ≠ b := HH.out.1.ne g eG
        have hset := ents_set x q1 q2 q3 hl q4
        have z3 : ∃ y, V.cell? ⟨g, off + n * 4 + 3, none⟩ = some y := by
          rw [cell_of_row V g _ cur _ (0, 0) q1]
          exact ⟨_, Array.getElem?_eq_getElem (by omega)⟩
        obtain ⟨y, z3⟩ := z3
        have zf := frozen_of_row _ g (off + n * 4 + 3) _ _ q1
        have HZ : Hid (PutS W b k (setL L s x) G (V.setCell ⟨g, off + n * 4 + 3, none⟩ (.int .i64 x))) := Lib.hid ⟨⟨some g, _, ⟨(heap_setCell_other V ⟨g, off + n * 4 + 3, none⟩ b _ (Ne.symm hgb)).trans hbx4, by rw [HBB.out.2]; exact hset, ⟨hroom.1, hroom.2.1, by rw [(HH.out.1.rise.set x).2]; exact hroom.2.2⟩, (HH.out.1.rise.set x).1, fun e he => by
            rw [HBB.out.2] at he
            rcases List.mem_or_eq_of_mem_set he with he | he
            · exact HH.out.1.small e he
            · rw [he]
              exact ⟨(HH.out.1.small _ (mem_gE hl)).1, HH.out.2.2⟩⟩, .inl eG.symm⟩, ⟨hB4.os, hB4.tape, hB4.output, by simpa using hB4.size, fun y hy hn => (heap_setCell_other V ⟨g, off + n * 4 + 3, none⟩ y _ fun e => hn (.inr (by rw [eG, e]))).trans (hB4.block y hy)⟩⟩
        clear hbV hB4 h4 hbx4 q1 q2 q3 q4 hset hV h3 hve eG e0 e1 e2 c0 x0 x1 x2 ht hroom
        go_wp2
        go_ret
        exact ⟨rbool6 HBB.out.1, HZ.out⟩
      · have hne2 : ∀ W : World, (binOp BinOp.neq 33 (.agg #[.int .i64 t.1, .int .i64 t.2.1, .int .i64 t.2.2]) (.agg #[.int .i64 s.1, .int .i64 s.2.1, .int .i64 s.2.2])).run Try.prog W = .ok (.bool true) W := fun W => by rw [hne, ne_sp, decide_eq_false hts]; rfl
        have hB : setB L s = false := Bool.eq_false_iff.2 fun e => hts (ht.symm.trans (HLV.out.1.1 e).2)
        have HZ := Lib.hid (show setB L s = false ∧ setL L s x = L from ⟨hB, by unfold setL; rw [hB]; exact if_neg (by decide)⟩)
        clear hB hne hts h3 hve eG ht hroom
        go_wp2_with fail
        go_quiet (fail)
        have HD := Lib.hid (show Below w3.heap.size w3 (w3.drewN nq) from belowN (Below.refl _ _) _)
        clear e0 e1 e2 c0 x0 x1 x2
        go_wp2
        go_ret
        exact ⟨rbool6 HZ.out.1, by rw [HZ.out.2]; exact PutS.same HH.out.1 (bT' HB3.out HD.out HB3.out.size)⟩
    · obtain ⟨pv, cv, hv, _, _⟩ := h3.ents.slice
      have c0 : w3.cell? ⟨b, 0, none⟩ = some (.slice pv L.length cv) := by rw [← hv]; exact (cell_two h3.box).1
      have hB : setB L s = false := Bool.eq_false_iff.2 fun e => hl (HLV.out.1.1 e).1
      have HZ := Lib.hid (show setB L s = false ∧ setL L s x = L from ⟨hB, by unfold setL; rw [hB]; exact if_neg (by decide)⟩)
      obtain rfl : n = L.length := by omega
      have hnl : decide ((L.length : Int) = (L.length : Int)) = true := decide_eq_true rfl
      have hnl2 : ((L.length : Int) == (L.length : Int)) = true := by simp
      clear hB h3 hv hroom
      go_wp2_with fail
      go_quiet (fail)
      have HD := Lib.hid (show Below w3.heap.size w3 (w3.drewN nq) from belowN (Below.refl _ _) _)
      clear c0 x0 x1 x2
      go_wp2
      go_ret
      exact ⟨rbool6 HZ.out.1, by rw [HZ.out.2]; exact PutS.same HH.out.1 (bT' HB3.out HD.out HB3.out.size)⟩
  · have hr2 : s.R = false := Bool.eq_false_iff.2 hr
    have KM2 := KM.out
    rw [show ((some (⟨b, 0, none⟩ : Addr)).isSome && s.R) = false from by rw [hr2]; rfl] at KM2
    replace KM := Lib.hid KM2
    have hB : setB L s = false := by unfold setB; rw [hr2]; rfl
    have HZ := Lib.hid (show setB L s = false ∧ setL L s x = L from ⟨hB, by unfold setL; rw [hB]; exact if_neg (by decide)⟩)
    clear KM2 hb1 hbx hW1 h hs hx hr hr2 hB
    go_enter Try.func19, Try.ntmps19
    go_wp2_with fail
    rw [HW.out]
    clear HW
    refine (KM.out _).mono ?_
    rintro e w2 ⟨rfl, hb2⟩
    have HB2 := Lib.hid (bT' HO.out.1 hb2 HO.out.1.size)
    clear hb2 x0 x1 x2
    go_wp2
    go_ret
    exact ⟨rbool6 HZ.out.1, by rw [HZ.out.2]; exact PutS.same HH.out.1 HB2.out⟩
end Go.Proofs.Ytibphmddepfgjaa.Tr
