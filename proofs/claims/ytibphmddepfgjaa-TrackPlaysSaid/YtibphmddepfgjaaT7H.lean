/-
  track's Put over this seat's translation. Conditions: those that each theorem states.
-/
import Derived.Test.YtibphmddepfgjaaT7G
namespace Go.Proofs.Ytibphmddepfgjaa.Tr
open Go.RowKit Go.Shelf Go.Lib Go.Sort

/-- What is new, or was the row. -/
abbrev RowOr (W : World) (G G' : Option Nat) : Prop := G' = G ∨ ∃ g, G' = some g ∧ W.heap.size ≤ g
/-- What Put comes to. -/
structure PutS (W : World) (b k : Nat) (L : List En) (G : Option Nat) (W' : World) : Prop where
  ex : ∃ G' v', TkS W' b k L G' v' ∧ RowOr W G G'
  lv : Leaves (Fp b G) W W'
theorem PutS.same {W W' : World} {b k : Nat} {L : List En} {G : Option Nat} {v : Value} (h : TkS W b k L G v) (hb : Below W.heap.size W W') : PutS W b k L G W' := ⟨⟨G, v, h.below hb, .inl rfl⟩, Leaves.of hb⟩
/-- An entry appended, and the list laid anew. -/
theorem put_end {W w6 W5 : World} {b k : Nat} {L : List En} {G G' : Option Nat} {v : Value} {p1 : Option Addr} {c1 : Nat} {s : Sp} {x : Int} (h : TkS W b k L G v) (hb : Below W.heap.size W w6) (hgr : w6.grownBy W5 G) (hE : Ents W5 (.slice p1 (L.length + 1) c1) (L ++ [(s, x)]) G') (hG : RowOr w6 G G')
    (hP : putE k L s = 0) (hs : s.I) (hx : In64 x) :
    PutS W b k (putL k L s x) G (W5.setCell ⟨b, 0, none⟩ (.slice p1 (L.length + 1) c1)) ∧ W5.heap[b]? = some (.cells #[v, .int .i64 (k : Int)] 66 (0, 0)) := by
  have hbl := (Array.getElem?_eq_some_iff.1 h.box).1
  have h6 := h.below hb
  have hbG : some b ≠ G := fun e => h.ne b e.symm rfl
  have hbox5 : W5.heap[b]? = some (.cells #[v, .int .i64 (k : Int)] 66 (0, 0)) := (hgr.block b (Nat.lt_of_lt_of_le hbl hb.size) hbG).trans h6.box
  have hLL : putL k L s x = L ++ [(s, x)] := by unfold putL; rw [if_pos hP]
  have hnG : ∀ g, G' = some g → g ≠ b := by
    rintro g rfl
    rcases hG with e | ⟨g', e, hg⟩
    · exact h.ne g e.symm
    · have : g = g' := by simpa using e
      have := hb.size
      omega
  refine ⟨⟨⟨G', _, ⟨heap_setCell_same W5 b 0 _ _ (.slice p1 (L.length + 1) c1) hbox5, ?_, ⟨h.room.1, h.room.2.1, putL_len h.room.2.2⟩, h.rise.put x, fun e he => ?_⟩, ?_⟩, ?_⟩, hbox5⟩
  · rw [hLL]
    exact hE.keep fun g e => heap_setCell_other W5 ⟨b, 0, none⟩ g _ (hnG g e)
  · rw [hLL] at he
    rcases List.mem_append.1 he with he | he
    · exact h.small e he
    · rw [List.mem_singleton.1 he]
      exact ⟨hs, hx⟩
  · rcases hG with e | ⟨g, e, hg⟩
    · exact .inl e
    · exact .inr ⟨g, e, Nat.le_trans hb.size hg⟩
  · refine ⟨hgr.os.trans hb.os, hgr.tape.trans hb.tape, hgr.output.trans hb.output, Nat.le_trans hb.size (by simpa using hgr.size), fun y hy hn => ?_⟩
    refine (heap_setCell_other W5 ⟨b, 0, none⟩ y _ fun e => hn (.inl e)).trans ?_
    exact (hgr.block y (Nat.lt_of_lt_of_le hy hb.size) fun e => hn (.inr e.symm)).trans (hb.block y hy)

set_option maxHeartbeats 16000000 in
set_option maxRecDepth 100000 in
theorem putT_c {W : World} {b k : Nat} {L : List En} {G : Option Nat} {v : Value} (h : TkS W b k L G v) (s : Sp) (x : Int) (hs : s.I) (hx : In64 x) :
    Calls Try.prog 10 #[.pointer (some ⟨b, 0, none⟩), s.v, .int .i64 x] W fun e w' => e = .returned (.int .i64 (putE k L s)) ∧ PutS W b k (putL k L s x) G w' := by
  have mixed : Try.prog.follows .mixedOrders = true := by kernel_rfl
  obtain ⟨W1, hW1⟩ : ∃ W1, W.alloc (.cells #[.int .i64 s.1, .int .i64 s.2.1, .int .i64 s.2.2] 33) = W1 := ⟨_, rfl⟩
  have hb1 : Below W.heap.size W W1 := hW1 ▸ bA' (Below.refl _ _) (Nat.le_refl _) _
  have hbx : W1.heap[W.heap.size]? = some (.cells #[.int .i64 s.1, .int .i64 s.2.1, .int .i64 s.2.2] 33 (0, 0)) := hW1 ▸ World.alloc_heap_new W _
  have KM := Lib.hid (may_c (some ⟨b, 0, none⟩) s hs)
  have HQ := Lib.hid (fun W => eqP s.1 s.2.1 s.2.2 1 0 0 W)
  have HO := Lib.hid (And.intro hb1 hbx)
  have HW := Lib.hid hW1
  have HH := Lib.hid (And.intro h (And.intro hs hx))
  have HP := Lib.hid (show putE k L s = if s.R = true ∧ s ≠ (1, 0, 0) then (if ∀ a, L.getLast? = some a → cmp a.1 s < 0 then (if L.length < k then 0 else 14) else 15) else 1 from rfl)
  obtain ⟨x0, x1, x2⟩ := cells3 hbx (Below.refl _ _)
  obtain ⟨pv, cv, hv, _, _⟩ := h.ents.slice
  have HV := Lib.hid hv
  have hroom := h.room
  obtain ⟨E, hE⟩ : ∃ E, putE k L s = E := ⟨_, rfl⟩
  have HE := Lib.hid hE
  rw [hE] at HP ⊢
  obtain ⟨n, hn⟩ : ∃ n, L.length = n := ⟨_, rfl⟩
  have HN := Lib.hid hn
  have HR := Lib.hid (show 1 ≤ k ∧ k ≤ 1048576 ∧ n ≤ k from hn ▸ hroom)
  clear hb1 hbx hW1 h hs hx hE hv hroom
  rcases Bool.eq_false_or_eq_true s.R with hr | hr
  · have KM2 := KM.out
    rw [show ((some (⟨b, 0, none⟩ : Addr)).isSome && s.R) = true from by rw [hr]; rfl] at KM2
    replace KM := Lib.hid KM2
    clear KM2
    by_cases hv : s = (1, 0, 0)
    · have heq : ∀ W : World, (binOp BinOp.eql 33 (.agg #[.int .i64 s.1, .int .i64 s.2.1, .int .i64 s.2.2]) (.agg #[.int .i64 1, .int .i64 0, .int .i64 0])).run Try.prog W = .ok (.bool true) W := fun W => by rw [HQ.out, never3s, decide_eq_true hv]
      have HS := Lib.hid (show E = 1 from by rw [HP.out]; rw [if_neg fun h => h.2 hv])
      clear HP
      clear hv hr hn
      go_enter Try.func10, Try.ntmps10
      go_wp2_with fail
      rw [HW.out]
      clear HW
      go_region_held3 (fun w' => w'.cell? ⟨W.heap.size, 0, none⟩ = some (.int .i64 s.1) ∧ w'.cell? ⟨W.heap.size, 1, none⟩ = some (.int .i64 s.2.1) ∧ w'.cell? ⟨W.heap.size, 2, none⟩ = some (.int .i64 s.2.2) ∧ Below W1.heap.size W1 w')
        (first | (go_split_ands; with_reducible exact ⟨keepc hb (by assumption), keepc hb (by assumption), keepc hb (by assumption), belowT (by assumption) hb⟩) | exact ⟨x0, x1, x2, Below.drew (Below.refl _ W1)⟩ | go_keep)
        (first
          | (go_at_call 25; refine (KM.out _).mono ?_; rintro e w6 ⟨rfl, hb⟩)
          | (go_at_call 26; refine (pnever_c _).mono ?_; rintro e w6 ⟨rfl, hb⟩))
      all_goals go_split_ands
      all_goals have HB := Lib.hid (show Below W1.heap.size W1 w6 from by with_reducible assumption)
      all_goals
        clear x0 x1 x2
        go_wp2
        go_ret
        exact ⟨rint6 HS.out, by have hE0 : putL k L s x = L := (by unfold putL; rw [HE.out, HS.out]; exact if_neg (by decide)); rw [hE0]; exact PutS.same HH.out.1 (bT' HO.out.1 HB.out HO.out.1.size)⟩
    · have heq : ∀ W : World, (binOp BinOp.eql 33 (.agg #[.int .i64 s.1, .int .i64 s.2.1, .int .i64 s.2.2]) (.agg #[.int .i64 1, .int .i64 0, .int .i64 0])).run Try.prog W = .ok (.bool false) W := fun W => by rw [HQ.out, never3s, decide_eq_false hv]
      rcases List.eq_nil_or_concat L with hL0 | ⟨M, e, hLe⟩
      · have hlast : ∀ a, L.getLast? = some a → cmp a.1 s < 0 := fun a h => by rw [hL0] at h; cases h
        have hn0 : n = 0 := by rw [← hn, hL0]; rfl
        have hl0 : decide ((n : Int) > 0) = false := decide_eq_false (by omega)
        have hl1 : decide (0 < n) = false := decide_eq_false (by omega)
        have HL := Lib.hid hlast
        have HRV := Lib.hid (And.intro hr hv)
        clear hL0 hn hn0 hlast hr hv
        go_enter Try.func10, Try.ntmps10
        go_wp2_with fail
        rw [HW.out]
        clear HW
        go_region_held3 (fun w' => w'.cell? ⟨W.heap.size, 0, none⟩ = some (.int .i64 s.1) ∧ w'.cell? ⟨W.heap.size, 1, none⟩ = some (.int .i64 s.2.1) ∧ w'.cell? ⟨W.heap.size, 2, none⟩ = some (.int .i64 s.2.2) ∧ Below W1.heap.size W1 w')
          (first | (go_split_ands; with_reducible exact ⟨keepc hb (by assumption), keepc hb (by assumption), keepc hb (by assumption), belowT (by assumption) hb⟩) | exact ⟨x0, x1, x2, Below.drew (Below.refl _ W1)⟩ | go_keep)
          (first
            | (go_at_call 25; refine (KM.out _).mono ?_; rintro e w6 ⟨rfl, hb⟩)
            | (go_at_call 26; refine (pnever_c _).mono ?_; rintro e w6 ⟨rfl, hb⟩))
        all_goals go_split_ands
        all_goals have HB := Lib.hid (show Below W1.heap.size W1 w6 from by with_reducible assumption)
        all_goals
          clear x0 x1 x2
          have h6 := HH.out.1.below (bT' HO.out.1 HB.out HO.out.1.size)
          obtain ⟨c0, c1, _⟩ := cell_two (HV.out ▸ h6.box)
          rw [HN.out] at c0
          go_wp2_with fail
          go_quiet (fail)
          obtain ⟨V, hV⟩ : ∃ V, w6.drewN nq = V := ⟨_, rfl⟩
          rw [hV]
          replace HB := Lib.hid (show Below W1.heap.size W1 V from hV ▸ belowT HB.out (belowN (Below.refl _ _) _))
          clear hV h6 c0 c1 hl0 hl1
          have hbV := bT' HO.out.1 HB.out HO.out.1.size
          have hV6 := HH.out.1.below hbV
          have hboxV := hV6.box
          rw [HV.out, HN.out] at hboxV
          obtain ⟨c0, c1, _⟩ := cell_two hboxV
          by_cases hk : n < k
          · have hlr : decide ((n : Int) ≥ (k : Int)) = false := decide_eq_false (by omega)
            have hlq : decide (k ≤ n) = false := decide_eq_false (by omega)
            have HS := Lib.hid (show E = 0 from by rw [HP.out]; rw [if_pos HRV.out, if_pos HL.out, if_pos (by rw [HN.out]; exact hk)])
            obtain ⟨w8, hw8⟩ : ∃ w8, V.drew.alloc (.cells #[.int .i64 s.1, .int .i64 s.2.1, .int .i64 s.2.2, .int .i64 x] 71) = w8 := ⟨_, rfl⟩
            have hb8 : Below V.heap.size V w8 := hw8 ▸ ((Below.refl V.heap.size V).drew.alloc (Nat.le_refl _) _)
            obtain ⟨p1, d1, G', W5, hrun, hE5, hG5, hgr⟩ := ents_append (hV6.below hb8).ents (s, x) V.heap.size (hw8 ▸ World.alloc_heap_new V.drew _) (by have := HR.out; have := HN.out; omega)
            obtain ⟨hput, hbox5⟩ := put_end HH.out.1 (bT' hbV hb8 hbV.size) hgr hE5 hG5 (by rw [HE.out, HS.out]) HH.out.2.1 HH.out.2.2
            rw [HV.out, HN.out] at hbox5 hrun
            rw [HN.out] at hput
            obtain ⟨z0, z1, _⟩ := cell_two hbox5
            have zf := frozen_of_row _ b 0 _ _ hbox5
            have HRUN := Lib.hid (show (Builtin.append_ #[64, 64] 64 #[.slice pv n cv, .slice (some ⟨V.heap.size, 0, none⟩) 1 1]).run Try.prog (V.alloc (.cells #[.int .i64 s.1, .int .i64 s.2.1, .int .i64 s.2.2, .int .i64 x] 71)).drew = .ok (.slice p1 (n + 1) d1) W5 from by rw [← hw8] at hrun; exact hrun)
            have c0b : (V.alloc (.cells #[.int .i64 s.1, .int .i64 s.2.1, .int .i64 s.2.2, .int .i64 x] 71)).cell? ⟨b, 0, none⟩ = some (.slice pv n cv) := kc' (bA' (Below.refl _ _) (Nat.le_refl _) _) c0
            obtain ⟨x0, x1, x2⟩ := cells3 HO.out.2 HB.out
            have HZ := Lib.hid hput
            clear HP hbV hV6 hboxV hw8 hb8 hrun hE5 hG5 hgr hput hbox5 hk
            go_wp2_with fail
            go_region_law (first | (refine step_append_run rfl (.tmp 48) (.tmp 52) 64 rfl (v1 := .slice pv n cv) (v2 := .slice (some ⟨V.heap.size, 0, none⟩) 1 1) (by simp [Act.eval]) (by simp [Act.eval]) HRUN.out ?_))
            all_goals go_wp2
            all_goals go_ret
            all_goals exact ⟨rint6 HS.out, HZ.out⟩
          · have hlr : decide ((n : Int) ≥ (k : Int)) = true := decide_eq_true (by omega)
            have hlq : decide (k ≤ n) = true := decide_eq_true (by omega)
            have HS := Lib.hid (show E = 14 from by rw [HP.out]; rw [if_pos HRV.out, if_pos HL.out, if_neg (by rw [HN.out]; exact hk)])
            have hE0 : putL k L s x = L := by unfold putL; rw [HE.out, HS.out]; exact if_neg (by decide)
            have HZ := Lib.hid (show PutS W b k (putL k L s x) G V from by rw [hE0]; exact PutS.same HH.out.1 hbV)
            clear HP hbV hV6 hboxV hk hE0
            go_wp2
            go_ret
            exact ⟨rint6 HS.out, HZ.out⟩
      · rw [List.concat_eq_append] at hLe
        have hgl : L.getLast? = some e := by rw [hLe]; simp
        have hpos : 0 < n := by rw [← hn, hLe]; simp
        obtain ⟨m, hm⟩ : ∃ m, n - 1 = m := ⟨_, rfl⟩
        have hge : gE L m = e := by
          have h1 : L[m]? = some e := by rw [← hm, ← hn, hLe]; simp
          have h2 := gE_get (L := L) (k := m) (by omega)
          rw [h1] at h2
          exact (Option.some.inj h2).symm
        have hl0 : decide ((n : Int) > 0) = true := decide_eq_true (by omega)
        have hl1 : decide (0 < n) = true := decide_eq_true hpos
        have hsub : IntKind.i64.wrap ((n : Int) - 1) = (m : Int) := by rw [IntKind.wrap_i64] <;> (have := HR.out; omega)
        have hm0 : (0 : Int) ≤ (m : Int) := by omega
        have hml : (m : Int) < (n : Int) := by omega
        have hIe := (HH.out.1.small e (List.mem_of_getLast? hgl)).1
        have KC := Lib.hid (pless_c e.1.1 e.1.2.1 e.1.2.2 s.1 s.2.1 s.2.2 hIe HH.out.2.1)
        obtain ⟨c, hc⟩ : ∃ c, decide (sCmp e.1.1 e.1.2.1 e.1.2.2 s.1 s.2.1 s.2.2 < 0) = c := ⟨_, rfl⟩
        rw [hc] at KC
        have HC := Lib.hid (show decide (cmp e.1 s < 0) = c from hc)
        have HAT := Lib.hid (And.intro hge (And.intro hgl (show m < n by omega)))
        have HRV := Lib.hid (And.intro hr hv)
        clear hge hgl hm hpos hLe hIe hc hn hr hv
        go_enter Try.func10, Try.ntmps10
        go_wp2_with fail
        rw [HW.out]
        clear HW
        go_region_held3 (fun w' => w'.cell? ⟨W.heap.size, 0, none⟩ = some (.int .i64 s.1) ∧ w'.cell? ⟨W.heap.size, 1, none⟩ = some (.int .i64 s.2.1) ∧ w'.cell? ⟨W.heap.size, 2, none⟩ = some (.int .i64 s.2.2) ∧ Below W1.heap.size W1 w')
          (first | (go_split_ands; with_reducible exact ⟨keepc hb (by assumption), keepc hb (by assumption), keepc hb (by assumption), belowT (by assumption) hb⟩) | exact ⟨x0, x1, x2, Below.drew (Below.refl _ W1)⟩ | go_keep)
          (first
            | (go_at_call 25; refine (KM.out _).mono ?_; rintro e w6 ⟨rfl, hb⟩)
            | (go_at_call 26; refine (pnever_c _).mono ?_; rintro e w6 ⟨rfl, hb⟩))
        all_goals go_split_ands
        all_goals have HB := Lib.hid (show Below W1.heap.size W1 w6 from by with_reducible assumption)
        all_goals
          clear x0 x1 x2
          have h6 := HH.out.1.below (bT' HO.out.1 HB.out HO.out.1.size)
          obtain ⟨g, off, cap, hve, eG, e0, e1, e2, _⟩ := entAt h6.ents (i := m) (by have := HAT.out.2.2; have := HN.out; omega)
          rw [HAT.out.1] at e0 e1 e2
          rw [HN.out] at hve
          have c0 : w6.cell? ⟨b, 0, none⟩ = some (.slice (some ⟨g, off, none⟩) n cap) := by rw [← hve]; exact (cell_two h6.box).1
          obtain ⟨x0, x1, x2⟩ := cells3 HO.out.2 HB.out
          clear h6
          go_wp2_with fail
          go_region_held3 (fun w' => w'.cell? ⟨g, off + m * 4, none⟩ = some (.int .i64 e.1.1) ∧ w'.cell? ⟨g, off + m * 4 + 1, none⟩ = some (.int .i64 e.1.2.1) ∧ w'.cell? ⟨g, off + m * 4 + 2, none⟩ = some (.int .i64 e.1.2.2) ∧ w'.cell? ⟨W.heap.size, 0, none⟩ = some (.int .i64 s.1) ∧ w'.cell? ⟨W.heap.size, 1, none⟩ = some (.int .i64 s.2.1) ∧ w'.cell? ⟨W.heap.size, 2, none⟩ = some (.int .i64 s.2.2) ∧ w'.cell? ⟨b, 0, none⟩ = some (.slice (some ⟨g, off, none⟩) n cap) ∧ Below w6.heap.size w6 w')
            (first | (go_split_ands; with_reducible exact ⟨keepc hb (by assumption), keepc hb (by assumption), keepc hb (by assumption), keepc hb (by assumption), keepc hb (by assumption), keepc hb (by assumption), keepc hb (by assumption), belowT (by assumption) hb⟩) | exact ⟨e0, e1, e2, x0, x1, x2, c0, Below.drew (Below.refl _ w6)⟩ | go_keep)
            (first
              | (go_at_call 27; refine (KC.out _).mono ?_; rintro e w9 ⟨rfl, hb⟩))
          all_goals go_split_ands
          all_goals
            have hb9 : Below w6.heap.size w6 w9 := by with_reducible assumption
            replace HB := Lib.hid (bT' HB.out hb9 HB.out.size)
            clear hb9 e0 e1 e2 x0 x1 x2 c0 hve eG hl0 hl1
            cases c with
            | true =>
              have HL : Hid (∀ a, L.getLast? = some a → cmp a.1 s < 0) := Lib.hid fun a h => by
                rw [HAT.out.2.1] at h
                cases h
                exact of_decide_eq_true HC.out
              obtain ⟨V, hV⟩ : ∃ V, w9 = V := ⟨_, rfl⟩
              rw [hV] at HB
              rw [hV]
              clear hV
              have hbV := bT' HO.out.1 HB.out HO.out.1.size
              have hV6 := HH.out.1.below hbV
              have hboxV := hV6.box
              rw [HV.out, HN.out] at hboxV
              obtain ⟨c0, c1, _⟩ := cell_two hboxV
              by_cases hk : n < k
              · have hlr : decide ((n : Int) ≥ (k : Int)) = false := decide_eq_false (by omega)
                have hlq : decide (k ≤ n) = false := decide_eq_false (by omega)
                have HS := Lib.hid (show E = 0 from by rw [HP.out]; rw [if_pos HRV.out, if_pos HL.out, if_pos (by rw [HN.out]; exact hk)])
                obtain ⟨w8, hw8⟩ : ∃ w8, V.drew.alloc (.cells #[.int .i64 s.1, .int .i64 s.2.1, .int .i64 s.2.2, .int .i64 x] 71) = w8 := ⟨_, rfl⟩
                have hb8 : Below V.heap.size V w8 := hw8 ▸ ((Below.refl V.heap.size V).drew.alloc (Nat.le_refl _) _)
                obtain ⟨p1, d1, G', W5, hrun, hE5, hG5, hgr⟩ := ents_append (hV6.below hb8).ents (s, x) V.heap.size (hw8 ▸ World.alloc_heap_new V.drew _) (by have := HR.out; have := HN.out; omega)
                obtain ⟨hput, hbox5⟩ := put_end HH.out.1 (bT' hbV hb8 hbV.size) hgr hE5 hG5 (by rw [HE.out, HS.out]) HH.out.2.1 HH.out.2.2
                rw [HV.out, HN.out] at hbox5 hrun
                rw [HN.out] at hput
                obtain ⟨z0, z1, _⟩ := cell_two hbox5
                have zf := frozen_of_row _ b 0 _ _ hbox5
                have HRUN := Lib.hid (show (Builtin.append_ #[64, 64] 64 #[.slice pv n cv, .slice (some ⟨V.heap.size, 0, none⟩) 1 1]).run Try.prog (V.alloc (.cells #[.int .i64 s.1, .int .i64 s.2.1, .int .i64 s.2.2, .int .i64 x] 71)).drew = .ok (.slice p1 (n + 1) d1) W5 from by rw [← hw8] at hrun; exact hrun)
                have c0b : (V.alloc (.cells #[.int .i64 s.1, .int .i64 s.2.1, .int .i64 s.2.2, .int .i64 x] 71)).cell? ⟨b, 0, none⟩ = some (.slice pv n cv) := kc' (bA' (Below.refl _ _) (Nat.le_refl _) _) c0
                obtain ⟨x0, x1, x2⟩ := cells3 HO.out.2 HB.out
                have HZ := Lib.hid hput
                clear HP hbV hV6 hboxV hw8 hb8 hrun hE5 hG5 hgr hput hbox5 hk
                go_wp2_with fail
                go_region_law (first | (refine step_append_run rfl (.tmp 48) (.tmp 52) 64 rfl (v1 := .slice pv n cv) (v2 := .slice (some ⟨V.heap.size, 0, none⟩) 1 1) (by simp [Act.eval]) (by simp [Act.eval]) HRUN.out ?_))
                all_goals go_wp2
                all_goals go_ret
                all_goals exact ⟨rint6 HS.out, HZ.out⟩
              · have hlr : decide ((n : Int) ≥ (k : Int)) = true := decide_eq_true (by omega)
                have hlq : decide (k ≤ n) = true := decide_eq_true (by omega)
                have HS := Lib.hid (show E = 14 from by rw [HP.out]; rw [if_pos HRV.out, if_pos HL.out, if_neg (by rw [HN.out]; exact hk)])
                have hE0 : putL k L s x = L := by unfold putL; rw [HE.out, HS.out]; exact if_neg (by decide)
                have HZ := Lib.hid (show PutS W b k (putL k L s x) G V from by rw [hE0]; exact PutS.same HH.out.1 hbV)
                clear HP hbV hV6 hboxV hk hE0
                go_wp2
                go_ret
                exact ⟨rint6 HS.out, HZ.out⟩
            | false =>
              have HS := Lib.hid (show E = 15 from by rw [HP.out]; rw [if_pos HRV.out, if_neg]; intro hh; have := hh _ HAT.out.2.1; have h2 := of_decide_eq_false HC.out; omega)
              clear HP
              go_wp2
              go_ret
              exact ⟨rint6 HS.out, by have hE0 : putL k L s x = L := (by unfold putL; rw [HE.out, HS.out]; exact if_neg (by decide)); rw [hE0]; exact PutS.same HH.out.1 (bT' HO.out.1 HB.out HO.out.1.size)⟩
  · have KM2 := KM.out
    rw [show ((some (⟨b, 0, none⟩ : Addr)).isSome && s.R) = false from by rw [hr]; rfl] at KM2
    replace KM := Lib.hid KM2
    clear KM2
    have HS := Lib.hid (show E = 1 from by rw [HP.out]; rw [if_neg fun h => by rw [hr] at h; exact absurd h.1 (by decide)])
    clear HP
    clear hr hn
    go_enter Try.func10, Try.ntmps10
    go_wp2_with fail
    rw [HW.out]
    clear HW
    go_region_with (first | (go_at_call 25; refine (KM.out _).mono ?_; rintro e w6 ⟨rfl, hb⟩))
    all_goals have HB := Lib.hid (show Below W1.heap.size W1 w6 from belowT (by repeat (first | with_reducible exact Below.refl _ _ | with_reducible refine Below.drew ?_ | with_reducible refine belowN ?_ _)) hb)
    all_goals clear hb x0 x1 x2
    all_goals
      go_wp2
      go_ret
      exact ⟨rint6 HS.out, by have hE0 : putL k L s x = L := (by unfold putL; rw [HE.out, HS.out]; exact if_neg (by decide)); rw [hE0]; exact PutS.same HH.out.1 (bT' HO.out.1 HB.out HO.out.1.size)⟩
end Go.Proofs.Ytibphmddepfgjaa.Tr
