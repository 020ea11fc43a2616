/-
  token's Scan over this seat's translation. Conditions: those that each theorem states.
-/
import Derived.Test.YtikpbfghdiomgaaDoorT8T
namespace Go.Proofs.YtikpbfghdiomgaaDoor
open Go.RowKit Go.Shelf Go.Lib Go.Sort Tk
attribute [local go_sem] Oper.semAt_some

/-- The temporaries of a round of Scan. -/
def actS (s : ByteArray) (b k bx : Nat) : Act :=
  { tmps := #[.string s, undef, .pointer (some ⟨b, 0, none⟩), .pointer (some ⟨b + 1, 0, none⟩), .pointer (some ⟨b + 2, 0, none⟩), .pointer (some ⟨b + 3, 0, none⟩), .pointer (some ⟨bx, 0, none⟩), .int .i64 (eX s k), .string s, .func (.func 17) #[] #[.pointer (some ⟨b + 4, 0, none⟩)], .agg #[.int .i64 (kX s k), .string (sX s k), .int .i64 (nX s k), .int .i64 (pX s k)], .int .i64 (eX s k), undef, undef, undef, undef, undef, undef, undef, undef, undef, undef], defers := [] }
/-- The worlds at Scan's range statement. -/
theorem scan_start (s : ByteArray) (w : World) (he : Env8 w) : ∃ W0, ((((w.alloc (.cells #[.slice none 0 0] 23)).alloc (.cells #[.int .i64 0] 3)).alloc (.cells #[.int .i64 0] 24)).alloc (.cells #[.slice none 0 0] 23)).alloc (.cells #[.string s] 9) = W0 ∧
    W0.heap.size = w.heap.size + 5 ∧ Ctx8 (w.heap.size + 4) s W0 ∧ ∀ ws m, ScK w w.heap.size m ws 0 (.slice none 0 0) W0 := by
  refine ⟨_, rfl, by simp, ⟨?_, ?_⟩, fun ws m => ⟨?_, ?_, ?_, ?_, ?_, ?_, fun g e => by cases e⟩⟩
  · have := World.alloc_heap_new ((((w.alloc (.cells #[.slice none 0 0] 23)).alloc (.cells #[.int .i64 0] 3)).alloc (.cells #[.int .i64 0] 24)).alloc (.cells #[.slice none 0 0] 23)) (.cells #[.string s] 9)
    simpa using this
  · exact he.keep (((((bA8 (Below.refl _ w) (Nat.le_refl _) _).alloc (by simp <;> omega) _).alloc (by simp <;> omega) _).alloc (by simp <;> omega) _).alloc (by simp <;> omega) _)
  · exact ((((bA8 (Below.refl _ w) (Nat.le_refl _) _).alloc (by simp <;> omega) _).alloc (by simp <;> omega) _).alloc (by simp <;> omega) _).alloc (by simp <;> omega) _
  · rw [Below.heap_alloc _ _ _ (by simp <;> omega), Below.heap_alloc _ _ _ (by simp <;> omega), Below.heap_alloc _ _ _ (by simp <;> omega), Below.heap_alloc _ _ _ (by simp <;> omega)]
    exact World.alloc_heap_new w _
  · rw [Below.heap_alloc _ _ _ (by simp <;> omega), Below.heap_alloc _ _ _ (by simp <;> omega), Below.heap_alloc _ _ _ (by simp <;> omega)]
    have := World.alloc_heap_new (w.alloc (.cells #[.slice none 0 0] 23)) (.cells #[.int .i64 0] 3)
    simpa using this
  · rw [Below.heap_alloc _ _ _ (by simp <;> omega), Below.heap_alloc _ _ _ (by simp <;> omega)]
    have := World.alloc_heap_new ((w.alloc (.cells #[.slice none 0 0] 23)).alloc (.cells #[.int .i64 0] 3)) (.cells #[.int .i64 0] 24)
    simpa using this
  · rw [Below.heap_alloc _ _ _ (by simp <;> omega)]
    have := World.alloc_heap_new (((w.alloc (.cells #[.slice none 0 0] 23)).alloc (.cells #[.int .i64 0] 3)).alloc (.cells #[.int .i64 0] 24)) (.cells #[.slice none 0 0] 23)
    simpa using this
  · exact World.ownsRow_nil _ _ _ _
/-- What stands at a round: a word, or the error. -/
theorem scan_at (s : ByteArray) {ws : List Tk.W} (h : (outs (bs s) = (ws.map fun u => (u, (0 : Int))) ∧ Tk.scan (bs s) = (ws, 0, 0)) ∨ (∃ p e, e ≠ 0 ∧ outs (bs s) = (ws.map fun u => (u, (0 : Int))) ++ [(⟨0, [], 0, p⟩, e)] ∧ Tk.scan (bs s) = ([], p, e))) :
    ∀ k, k < (outs (bs s)).length → (∃ u, ws[k]? = some u ∧ kX s k = (u.kind : Int) ∧ sX s k = ⟨u.s.toArray⟩ ∧ nX s k = (u.n : Int) ∧ pX s k = (u.p : Int) ∧ eX s k = 0) ∨ (k = ws.length ∧ eX s k ≠ 0 ∧ Tk.scan (bs s) = ([], (outX s k).1.p, eX s k)) := by
  intro k hk
  have hword : ∀ (r : List (Tk.W × Int)), outs (bs s) = (ws.map fun u => (u, (0 : Int))) ++ r → k < ws.length → ∃ u, ws[k]? = some u ∧ kX s k = (u.kind : Int) ∧ sX s k = ⟨u.s.toArray⟩ ∧ nX s k = (u.n : Int) ∧ pX s k = (u.p : Int) ∧ eX s k = 0 := by
    intro r hr hlt
    have hx : outX s k = (ws[k], 0) := by
      unfold outX
      rw [hr, List.getD_eq_getElem?_getD, List.getElem?_append_left (by simpa using hlt), List.getElem?_map, List.getElem?_eq_getElem hlt]
      rfl
    refine ⟨ws[k], List.getElem?_eq_getElem hlt, ?_⟩
    unfold kX sX nX pX eX
    rw [hx]
    exact ⟨rfl, rfl, rfl, rfl, rfl⟩
  rcases h with ⟨h1, h2⟩ | ⟨p, e, he, h1, h2⟩
  · rw [h1, List.length_map] at hk
    exact .inl (hword [] (by rw [h1, List.append_nil]) hk)
  · by_cases hlt : k < ws.length
    · exact .inl (hword _ h1 hlt)
    · right
      have hkw : k = ws.length := by rw [h1] at hk; simp at hk; omega
      subst hkw
      have hx := (outX_at h1).1
      refine ⟨rfl, ?_, ?_⟩
      · unfold eX; rw [hx]; exact he
      · unfold eX; rw [hx]; exact h2

theorem outs_len (l : Bs) : (outs l).length ≤ 16386 := by
  unfold outs
  by_cases h : 16384 < l.length
  · rw [if_pos h]
    exact by decide
  · rw [if_neg h]
    have h1 := lex_len (l.length + 1) 0 l
    generalize lex (l.length + 1) 0 l = x at h1 ⊢
    obtain ⟨ws, o⟩ := x
    cases o with
    | none => simp [outsOf] at h1 ⊢; omega
    | some q => obtain ⟨p, e⟩ := q; simp [outsOf] at h1 ⊢; omega

set_option maxRecDepth 100000 in
set_option maxHeartbeats 16000000 in
theorem pscan_c (s : ByteArray) (w : World) (he : Env8 w) : Calls Tryd.prog 8 #[.string s] w fun e w' => ScP w s e w' := by
  have hmx : Tryd.prog.follows .mixedOrders = true := by kernel_rfl
  obtain ⟨i0, hi0, hz0, hz1, hz2⟩ := info_parts infoTp
  obtain ⟨W0, hW0, hs0, hcx, hsk⟩ := scan_start s w he
  have hm1 : 0 < w.heap.size := World.block_lt_of_cell? _ _ (he.marks 0 (by decide))
  have hm2 : 2 < w.heap.size := by
    obtain ⟨ev, h2, _⟩ := he.rng
    exact World.block_lt_of_cell? _ _ h2
  obtain ⟨ws, hws⟩ : ∃ ws : List Tk.W, (outs (bs s) = (ws.map fun u => (u, (0 : Int))) ∧ Tk.scan (bs s) = (ws, 0, 0)) ∨ (∃ p e, e ≠ 0 ∧ outs (bs s) = (ws.map fun u => (u, (0 : Int))) ++ [(⟨0, [], 0, p⟩, e)] ∧ Tk.scan (bs s) = ([], p, e)) := by
    rcases scan_outs (bs s) with ⟨ws, h1, h2⟩ | ⟨ws, p, e, h1, h2, h3⟩
    · exact ⟨ws, .inl ⟨h1, h2⟩⟩
    · exact ⟨ws, .inr ⟨p, e, h1, h2, h3⟩⟩
  have HA := Lib.hid (scan_at s hws)
  have HSEQ := Lib.hid (all_seq (w.heap.size + 4) s W0 hcx)
  rw [arX_eq] at HSEQ
  have hol := outs_len (bs s)
  have HWL := Lib.hid (show ws.length ≤ 16386 ∧ ws.length ≤ (outs (bs s)).length from by
    have h1 : ws.length ≤ (outs (bs s)).length := by
      rcases hws with ⟨h, _⟩ | ⟨p, e, _, h, _⟩ <;> (rw [h]; simp)
    exact ⟨by omega, h1⟩)
  obtain ⟨N, hN⟩ : ∃ N, (outs (bs s)).length = N := ⟨_, rfl⟩
  rw [hN] at HSEQ HA HWL
  have HEND := Lib.hid (show N = ws.length → Tk.scan (bs s) = (ws, 0, 0) from by
    intro h
    rcases hws with ⟨_, h2⟩ | ⟨p, e, _, h1, _⟩
    · exact h2
    · rw [← hN, h1] at h; simp at h)
  have HW0 := Lib.hid hW0
  have H0 := Lib.hid (And.intro hs0 (And.intro hm1 (And.intro hm2 hsk)))
  have HALL := Lib.hid (pall_c s)
  clear hcx hsk hws hN hW0 hs0 hm1 hm2 he hol
  refine (callsIn_wide (n := 0)).1 ?_
  refine callsIn_of_wp_marks Tryd.func8 rfl trivial ?_ rfl
  simp only [Tryd.ntmps8, List.size_toArray, List.length_cons, List.length_nil, Nat.reduceAdd, Nat.reduceSub, Array.replicate_succ, Array.replicate_zero, List.push_toArray, List.append_toArray, List.nil_append, List.cons_append]
  gi_wp2_with fail
  refine ⟨trivial, rfl, ?_⟩
  refine callsIn_wide.2 ((HALL.out _).mono ?_)
  rintro e W1 ⟨rfl, rfl⟩
  rw [HW0.out]
  gi_wp2_with fail
  simp only [Nat.add_assoc, Nat.reduceAdd]
  refine range_lawQ (gf := 17) (lb := #[.pointer (some ⟨w.heap.size + 4, 0, none⟩)]) rfl eg_pall (fun b o h => h.2) HSEQ.out (fun _ => rfl)
    (fun k W => k ≤ ws.length ∧ ∃ m v, ScK w w.heap.size m ws k v W) (fun c _ W => c = .ret ∧ ∃ (p : Nat) (e : Int), Tk.scan (bs s) = ([], p, e) ∧ ScE w w.heap.size (p : Int) e W) ?hI ?hIx ⟨Nat.zero_le _, 0, _, H0.out.2.2.2 ws 0⟩
    (fun m k W => k ≤ ws.length ∧ ∃ v, ScK w w.heap.size m ws k v W) ?hIw ?hmark
    (fun k a' W => ∃ bx, a' = actS s w.heap.size k bx ∧ W.heap[bx]? = some (box8 (.int .i64 (kX s k)) (.string (sX s k)) (.int .i64 (nX s k)) (.int .i64 (pX s k)))) ?hAx ?assign ?body ?done ?stop
  case hI =>
    rintro k A C row ⟨hk, m, v, h⟩ hgr hr
    exact ⟨hk, m, v, h.own (by have := H0.out.1; omega) hgr hr⟩
  case hIx =>
    rintro c k A C row ⟨hc, p, e, h1, h⟩ hgr hr
    exact ⟨hc, p, e, h1, h.own (by have := H0.out.1; omega) hgr hr⟩
  case hIw =>
    rintro m k A C row ⟨hk, v, h⟩ hgr hr
    exact ⟨hk, v, h.own (by have := H0.out.1; omega) hgr hr⟩
  case hmark =>
    rintro k A _ ⟨hk, m, v, h⟩
    exact ⟨hk, v, h.mark (Nat.le_refl _)⟩
  case hAx =>
    rintro k a' u A C row ⟨bx, e, hb⟩ hgr hr
    exact ⟨bx, e, (hgr.block bx (Array.getElem?_eq_some_iff.1 hb).1 fun e => by
      obtain ⟨_, o, ho, hc⟩ := hr bx e.symm
      rw [hb] at ho
      cases ho
      cases hc).trans hb⟩
  case assign =>
    rintro l m k Wq K ⟨hk, v, hj⟩ hkN hsz hK
    have hbq := bA8 (Below.refl Wq.heap.size Wq) (Nat.le_refl _) (.cells #[.int .i64 (kX s k), .string (sX s k), .int .i64 (nX s k), .int .i64 (pX s k)] 28)
    have H1 := Lib.hid (And.intro (hj.keep hbq) (And.intro hbq hk))
    have HKK := Lib.hid hK
    clear hj hK hbq hk hkN hsz
    unfold arX
    gi_wp2
    exact HKK.out _ _ H1.out.2.1 ⟨H1.out.2.2, v, H1.out.1⟩ ⟨Wq.heap.size, rfl, World.alloc_heap_new Wq _⟩
  case body =>
    rintro l m hi k a' Wq ⟨hk, v, hj⟩ hlo hlh hhi ⟨bx, rfl, hbx⟩ hkN
    rcases HA.out k hkN with ⟨u, hu, q1, q2, q3, q4, q5⟩ | ⟨rfl, hE, hsc⟩
    · have hk1 : k + 1 ≤ ws.length := (List.getElem?_eq_some_iff.1 hu).1
      have hlk : (ws.take k).length = k := by rw [List.length_take]; omega
      obtain ⟨p, cp, hv, _⟩ := rowW_form hj.row
      rw [hlk] at hv
      subst hv
      obtain ⟨T, hT⟩ : ∃ T : ByteArray, (⟨u.s.toArray⟩ : ByteArray) = T := ⟨_, rfl⟩
      have hcu : cW u = [.int .i64 (u.kind : Int), .string T, .int .i64 (u.n : Int), .int .i64 (u.p : Int)] := by unfold cW; rw [hT]
      rw [hT] at q2
      unfold actS
      rw [q1, q2, q3, q4] at hbx
      rw [q1, q2, q3, q4, q5]
      obtain ⟨X0, hX0⟩ : ∃ X : Int, (u.kind : Int) = X := ⟨_, rfl⟩
      obtain ⟨X2, hX2⟩ : ∃ X : Int, (u.n : Int) = X := ⟨_, rfl⟩
      obtain ⟨X3, hX3⟩ : ∃ X : Int, (u.p : Int) = X := ⟨_, rfl⟩
      rw [hX0, hX2, hX3] at hbx hcu
      rw [hX0, hX2, hX3]
      obtain ⟨x0, x1, x2, x3, _, _, _, _⟩ := cells8 hbx
      have b0 := (cell_one8 hj.c5).1
      have HCU := Lib.hid hcu
      have HJ := Lib.hid (And.intro hj (And.intro hu (And.intro hlo (And.intro hlh (And.intro hhi (And.intro hk1 hlk))))))
      have HK1 := Lib.hid (show k ≤ 16386 from by have := HWL.out.1; omega)
      have HROW := Lib.hid (show Wq.ownsRow (w.heap.size + 5) 28 4 (.slice p k cp) k ((ws.take k).flatMap cW) from by
        have := hj.row
        rw [hlk] at this
        exact this)
      clear hj hbx hlo hlh hhi hk hk1 hlk hu q1 q2 q3 q4 q5 hcu hT hX0 hX2 hX3 hkN
      gi_wp2_with (first
        | (refine wpListIn_append_own_at _ rfl _ _ 23 rfl (w.heap.size + 5) 28 i0 (.agg #[.int .i64 0, .string ⟨#[]⟩, .int .i64 0, .int .i64 0]) 4 40 Tryd.underlying23 hi0 hz0 hz1 hz2 rfl (by decide) _ _ _ rfl (HROW.out.alloc _) ⟨Wq.heap.size, 0, none⟩ 1 1 [.int .i64 X0, .string T, .int .i64 X2, .int .i64 X3] rfl rfl (by
                  have := World.ownsRow_lit (base := 0) (e := 28) (size := 4) Wq #[.int .i64 X0, .string T, .int .i64 X2, .int .i64 X3] 1 (by omega) (by unfold maxLen; omega) rfl
                  exact this.cells (g := Wq.heap.size) (by simp [Value.ownBlock])) (by
                  intro u hu
                  simp only [List.mem_cons, List.not_mem_nil, or_false] at hu
                  rcases hu with rfl | rfl | rfl | rfl <;> rfl) (by unfold maxLen; have := HK1.out; omega) (by have := HK1.out; omega) (by have h1 := (Array.getElem?_eq_some_iff.1 HJ.out.1.c5).1; have h2 := HJ.out.2.2.1; have h3 := HJ.out.2.2.2.1; have h4 := HJ.out.2.2.2.2.1; have h5 := H0.out.1; simp; omega) ?_; intro v' w8 hown' hgrow hnil hloc; obtain ⟨g8, c8, rfl, _⟩ := hown'.form (by omega); have HN := Lib.hid (ScK.next (hi := hi) HJ.out.1 (Nat.le_refl _) HJ.out.2.1 (by have := H0.out.1; have := HJ.out.2.2.1; omega) HJ.out.2.2.2.1 HJ.out.2.2.2.2.1 H0.out.2.1 H0.out.2.2.1 hgrow (by rw [HJ.out.2.2.2.2.2.2, HCU.out]; exact hown') hloc); have hb8 : w8.heap[w.heap.size + 3]? = some (objT (.slice p k cp)) := (hgrow.block _ (by have := (Array.getElem?_eq_some_iff.1 HJ.out.1.c5).1; rw [World.size_alloc]; omega) (fun e => by have := HJ.out.1.ne _ e.symm; omega)).trans ((Below.heap_alloc _ _ _ (Array.getElem?_eq_some_iff.1 HJ.out.1.c5).1).trans HJ.out.1.c5); have b8 := (cell_one8 hb8).1; have f8 := (cell_one8 hb8).2; clear hown' hgrow hnil hloc hb8))
      obtain ⟨m', v2, hN2⟩ := HN.out.2
      exact ⟨by rw [H0.out.1]; exact HN.out.1, HJ.out.2.2.2.2.2.1, m', v2, hN2⟩
    · have hne : (eX s ws.length != 0) = true := by simpa using hE
      obtain ⟨x0, x1, x2, x3, _, _, _, _⟩ := cells8 hbx
      obtain ⟨b2, f2⟩ := cell_one8 hj.c2
      obtain ⟨b3, f3⟩ := cell_one8 hj.c3
      obtain ⟨b4, f4⟩ := cell_one8 hj.c4
      have HST := Lib.hid (ScK.stop (lo := m) (hi := hi) hj (Nat.le_refl _) (by have := H0.out.1; omega) H0.out.2.1 H0.out.2.2.1 (pX s ws.length) (eX s ws.length))
      have HSC := Lib.hid hsc
      clear hj hbx hlo hlh hhi hk hE hsc hkN
      unfold actS
      gi_wp2_with fail
      gi_region_with_o (fail)
      all_goals gi_wp2
      all_goals exact ⟨by rw [H0.out.1]; exact HST.out.1, rfl, _, _, HSC.out, HST.out.2⟩
  case done =>
    rintro D W hD ⟨hk, m, v, hj⟩ hdef
    have hsc := HEND.out (by have := HWL.out.2; omega)
    have hkl : N = ws.length := by have := HWL.out.2; omega
    subst hkl
    obtain ⟨b2, f2⟩ := cell_one8 hj.c2
    obtain ⟨b3, f3⟩ := cell_one8 hj.c3
    obtain ⟨b4, f4⟩ := cell_one8 hj.c4
    have b5 := (cell_one8 hj.c5).1
    obtain ⟨p, cp, rfl, _⟩ := rowW_form hj.row
    have hrow := hj.row
    rw [List.take_length] at hrow b5
    have HJ := Lib.hid (And.intro hj (And.intro hdef (And.intro (show w.heap.size + 5 ≤ D from by have := H0.out.1; omega) (And.intro hsc hrow))))
    clear hj hdef hD hk hsc hrow
    gi_wp2
    obtain ⟨hj, hdef, hD, hsc, hrow⟩ := HJ.out
    have hn2 : D ≠ w.heap.size := by omega
    have hn3 : D ≠ w.heap.size + 1 := by omega
    have hn4 : D ≠ w.heap.size + 2 := by omega
    refine ⟨by simp, .inl ⟨_, _, rfl, run_takeDeferred (by rw [heap_setCell_other _ _ _ _ hn4, heap_setCell_other _ _ _ _ hn3, heap_setCell_other _ _ _ _ hn2]; exact hdef), ?_⟩⟩
    have k2 : ((((W.setCell ⟨w.heap.size, 0, none⟩ (.slice p ws.length cp)).setCell ⟨w.heap.size + 1, 0, none⟩ (.int .i64 0)).setCell ⟨w.heap.size + 2, 0, none⟩ (.int .i64 0)).putObj D (.deferred none)).heap[w.heap.size]? = some (objT (.slice p ws.length cp)) :=
      (World.putObj_heap_other hn2.symm).trans (((heap_setCell_other _ ⟨w.heap.size + 2, 0, none⟩ _ _ (by show w.heap.size ≠ w.heap.size + 2; omega)).trans (heap_setCell_other _ ⟨w.heap.size + 1, 0, none⟩ _ _ (by show w.heap.size ≠ w.heap.size + 1; omega))).trans (heap_setCell_same _ w.heap.size 0 _ _ _ hj.c2))
    have k3 : ((((W.setCell ⟨w.heap.size, 0, none⟩ (.slice p ws.length cp)).setCell ⟨w.heap.size + 1, 0, none⟩ (.int .i64 0)).setCell ⟨w.heap.size + 2, 0, none⟩ (.int .i64 0)).putObj D (.deferred none)).heap[w.heap.size + 1]? = some (objI 0) :=
      (World.putObj_heap_other hn3.symm).trans ((heap_setCell_other _ ⟨w.heap.size + 2, 0, none⟩ _ _ (by show w.heap.size + 1 ≠ w.heap.size + 2; omega)).trans (heap_setCell_same _ (w.heap.size + 1) 0 _ _ _ ((heap_setCell_other _ ⟨w.heap.size, 0, none⟩ _ _ (by show w.heap.size + 1 ≠ w.heap.size; omega)).trans hj.c3)))
    have k4 : ((((W.setCell ⟨w.heap.size, 0, none⟩ (.slice p ws.length cp)).setCell ⟨w.heap.size + 1, 0, none⟩ (.int .i64 0)).setCell ⟨w.heap.size + 2, 0, none⟩ (.int .i64 0)).putObj D (.deferred none)).heap[w.heap.size + 2]? = some (objE 0) :=
      (World.putObj_heap_other hn4.symm).trans (heap_setCell_same _ (w.heap.size + 2) 0 _ _ _ (((heap_setCell_other _ ⟨w.heap.size + 1, 0, none⟩ _ _ (by show w.heap.size + 2 ≠ w.heap.size + 1; omega)).trans (heap_setCell_other _ ⟨w.heap.size, 0, none⟩ _ _ (by show w.heap.size + 2 ≠ w.heap.size; omega))).trans hj.c4))
    have r2 := (cell_one8 k2).1
    have r3 := (cell_one8 k3).1
    have r4 := (cell_one8 k4).1
    have hother : ∀ j, j ≠ w.heap.size → j ≠ w.heap.size + 1 → j ≠ w.heap.size + 2 → j ≠ D → ((((W.setCell ⟨w.heap.size, 0, none⟩ (.slice p ws.length cp)).setCell ⟨w.heap.size + 1, 0, none⟩ (.int .i64 0)).setCell ⟨w.heap.size + 2, 0, none⟩ (.int .i64 0)).putObj D (.deferred none)).heap[j]? = W.heap[j]? := fun j h1 h2 h3 h4 =>
      (World.putObj_heap_other h4).trans (((heap_setCell_other _ ⟨w.heap.size + 2, 0, none⟩ j _ h3).trans (heap_setCell_other _ ⟨w.heap.size + 1, 0, none⟩ j _ h2)).trans (heap_setCell_other _ ⟨w.heap.size, 0, none⟩ j _ h1))
    refine ⟨.tuple #[.slice p ws.length cp, .int .i64 0, .int .i64 0], by simp [results, Tryd.results8, go_sem, r2, r3, r4], ?_⟩
    unfold ScP
    rw [hsc]
    refine ⟨⟨_, rfl, ownsRow_low (ownsRow_keep8 hrow fun g e => ?_) (by omega)⟩, ⟨hj.below.os, hj.below.tape, hj.below.output, by have := hj.below.size; simpa using this, fun j hjj => (hother j (by omega) (by omega) (by omega) (by omega)).trans (hj.below.block j hjj)⟩⟩
    have hg := (hrow.lt g e).1
    refine hother g (by omega) (by omega) (by omega) fun e2 => ?_
    obtain ⟨cur, hc⟩ := ownsRow_cells8 hrow e
    rw [e2, hdef] at hc
    cases hc
  case stop =>
    rintro D c k W hD hk ⟨rfl, p, e, hsc, h⟩ hdef
    have HJ := Lib.hid (And.intro h (And.intro hdef (And.intro (show w.heap.size + 5 ≤ D from by have := H0.out.1; omega) hsc)))
    clear h hdef hD hk hsc
    gi_wp2
    obtain ⟨h, hdef, hD, hsc⟩ := HJ.out
    refine ⟨by simp, .inl ⟨_, _, rfl, run_takeDeferred hdef, ?_⟩⟩
    have hother : ∀ j, j ≠ D → (W.putObj D (.deferred none)).heap[j]? = W.heap[j]? := fun j hj => World.putObj_heap_other hj
    have r2 := (cell_one8 ((hother _ (by omega)).trans h.c2)).1
    have r3 := (cell_one8 ((hother _ (by omega)).trans h.c3)).1
    have r4 := (cell_one8 ((hother _ (by omega)).trans h.c4)).1
    refine ⟨.tuple #[.slice none 0 0, .int .i64 (p : Int), .int .i64 e], by simp [results, Tryd.results8, go_sem, r2, r3, r4], ?_⟩
    unfold ScP
    rw [hsc]
    exact ⟨⟨_, rfl, World.ownsRow_nil _ _ _ _⟩, ⟨h.below.os, h.below.tape, h.below.output, by have := h.below.size; simpa using this, fun j hjj => (hother j (by omega)).trans (h.below.block j hjj)⟩⟩
end Go.Proofs.YtikpbfghdiomgaaDoor
